import Derived.Test.YtjjggdcnpndgjabGreatDoorJ7
import Derived.WalkSmall
import Derived.RangeFuncNested
import Derived.RangeFuncBound
import Derived.RangeFuncCalls
import Derived.RangeFuncLeaves
import Derived.Shelf.Abstract
import Derived.OwnWalkIn
import Derived.TacticsInMore
import Derived.LoopNIn
import Derived.LoopIn
set_option linter.unusedSimpArgs false
namespace Go.Proofs.YtjjggdcnpndgjabGreatDoor
open Go.RowKit
variable {N:NG}{h:List (List Bool)}{kb n n₀:Nat}{l:List Bool}{r:Nat × List Pt}{w w':World}
def lAt (l:List Nat) (n:Nat):Nat:=l.getD n 201
theorem fE (l:List Nat) (n m v:Nat):lAt (l.set n v) m=if n=m/\n<l.length then v else lAt l m:=by
 unfold lAt;simp only[gD_,List.getElem?_set]
 by_cases h:n=m
 ·subst h
  by_cases hl:n<l.length <;> simp[hl]
 ·simp[h]
def DP (N:NG) (f:Nat->Nat):List Pt->Nat
 | []=>0
 | .tok t::ps=>N.put t+DP N f ps
 | .nam n::ps=>f n+DP N f ps
theorem QS {N:NG}{f g:Nat->Nat} (h:∀n,f n<=g n):∀ps,DP N f ps<=DP N g ps
 | []=>lR_ _
 | .tok t::ps=>by have:=QS (N:=N) h ps;simp only[DP];omega
 | .nam n::ps=>by have:=QS (N:=N) h ps;have:=h n;simp only[DP];omega
def OT (N:NG) (f:Nat->Nat):Prop:=∀r∈N.rules,f r.1<=DP N f r.2
def Gfp (N:NG) (f:Nat->Nat):Prop:=(∀n,f n<=201)/\OT N f/\∀T:Nat->Nat,(∀n,T n<=201)->OT N T->∀n,T n<=f n
theorem Gfp.unique {f g:Nat->Nat} (h:Gfp N f) (k:Gfp N g) (n:Nat):f n=g n:=Nat.le_antisymm (k.2.2 f h.1 h.2.1 n) (h.2.2 g k.1 k.2.1 n)
def EB (N:NG) (st:List Nat × Bool) (r:Nat × List Pt):List Nat × Bool:=if DP N (lAt st.1) r.2<lAt st.1 r.1 then(st.1.set r.1 (DP N (lAt st.1) r.2),true)else st
def GX (N:NG) (l:List Nat):List Nat × Bool:=N.rules.foldl (EB N) (l,false)
def J9 (N:NG):Nat->List Nat->List Nat
 |0,l=>l
 |k+1,l=>if(GX N l).2 then J9 N k (GX N l).1 else(GX N l).1
def JL (N:NG):List Nat:=J9 N (N.nN*202+1) (List.replicate N.nN 201)
theorem U9:∀(l:List Nat) (n v:Nat),v<lAt l n->n<l.length->(l.set n v).sum<l.sum
 | [],n,v,_,h=>by simp at h
 |a::r,0,v,h,_=>by have h':v<a:=h;simp;omega
 |a::r,n+1,v,h,hl=>by
  have:=U9 r n v (by simpa[lAt] using h) (by simpa using hl);simp;omega
theorem mL (N:NG) (hl:∀r∈N.rules,r.1<N.nN):∀(rs:List (Nat × List Pt)),(∀r∈rs,r∈N.rules)->∀(l:List Nat) (b:Bool),l.length=N.nN->
  (rs.foldl (EB N) (l,b)).1.length=N.nN/\(((rs.foldl (EB N) (l,b))=(l,b)/\∀r∈rs,lAt l r.1<=DP N (lAt l) r.2)\/((rs.foldl (EB N) (l,b)).2=true/\(rs.foldl (EB N) (l,b)).1.sum<l.sum)):=by
 intro rs
 induction rs with
 |nil=>intro _ l b h;exact⟨h,.inl ⟨rfl,fun r hr=>by cases hr⟩⟩
 |cons x r ih=>
  intro hm l b h;have ih':=ih (fun q hq=>hm q (List.mem_cons_of_mem _ hq));have hx:=hl x (hm x (List.mem_cons_self ..));rw[List.foldl_cons]
  by_cases hc:DP N (lAt l) x.2<lAt l x.1
  ·have e:EB N (l,b) x=(l.set x.1 (DP N (lAt l) x.2),true):=by unfold EB;rw[if_pos hc]
   rw[e];obtain⟨h1,h2⟩:=ih' (l.set x.1 (DP N (lAt l) x.2)) true y20Z;have h3:=U9 l x.1 _ hc (by omega);refine⟨h1,.inr ?_⟩
   rcases h2 with⟨h2,_⟩ | ⟨h2,h4⟩
   ·rw[h2];exact⟨rfl,h3⟩
   ·exact⟨h2,by omega⟩
  ·have e:EB N (l,b) x=(l,b):=by unfold EB;rw[if_neg hc]
   rw[e];obtain⟨h1,h2⟩:=ih' l b h;refine⟨h1,?_⟩
   rcases h2 with⟨h2,h4⟩ |h2
   ·exact .inl ⟨h2,fun q hq=>by rcases List.mem_cons.1 hq with rfl |hq;omega;exact h4 q hq⟩
   ·exact .inr h2
theorem VE (N:NG) (hN:N.Ok) (l:List Nat) (h:l.length=N.nN):(GX N l).1.length=N.nN/\(((GX N l)=(l,false)/\OT N (lAt l))\/((GX N l).2=true/\(GX N l).1.sum<l.sum)):=
 mL N hN.lt N.rules (fun _ h=>h) l false h
theorem QA (N:NG) (I:List Nat->Prop) (hI:∀l,I l->∀r∈N.rules,I (EB N (l,false) r).1):∀(k:Nat) (l:List Nat),I l->I (J9 N k l):=by
 have hfold:∀(rs:List (Nat × List Pt)),(∀r∈rs,r∈N.rules)->∀st:List Nat × Bool,I st.1->I (rs.foldl (EB N) st).1:=by
  intro rs
  induction rs with
  |nil=>intro _ st h;exact h
  |cons x r ih=>
   intro hm st h;refine ih (fun q hq=>hm q (List.mem_cons_of_mem _ hq)) _ ?_;have:=hI st.1 h x (hm x (List.mem_cons_self ..));unfold EB at this ⊢;simp only at this;split at this <;> rename_i hc
   ·rw[if_pos hc];exact this
   ·rw[if_neg hc];exact h
 intro k
 induction k with
 |zero=>intro l h;exact h
 |succ k ih=>
  intro l h;have h1:I (GX N l).1:=hfold N.rules (fun _ h=>h) (l,false) h;unfold J9;split
  ·exact ih _ h1
  ·exact h1
theorem ZD (N:NG) (hN:N.Ok):∀(k:Nat) (l:List Nat),l.length=N.nN->l.sum<k->OT N (lAt (J9 N k l))/\(J9 N k l).length=N.nN:=by
 intro k
 induction k with
 |zero=>intro l _ h;omega
 |succ k ih=>
  intro l hl h;obtain⟨h1,h2⟩:=VE N hN l hl;unfold J9
  rcases h2 with⟨h2,h3⟩ | ⟨h2,h3⟩
  ·rw[h2]
   simp only[Bool.false_eq_true,if_false];exact⟨h3,hl⟩
  ·rw[if_pos h2]
   exact ih _ h1 (by omega)
theorem SQ (N:NG) (hN:N.Ok):Gfp N (lAt (JL N))/\(JL N).length=N.nN:=by
 have h0:(List.replicate N.nN 201).length=N.nN:=by simp
 have h1:=ZD N hN (N.nN*202+1) (List.replicate N.nN 201) h0 (by rw[List.sum_replicate_nat];omega);have h201:∀n,lAt (List.replicate N.nN 201) n=201:=by
  intro n;unfold lAt;rw[gD_,List.getElem?_replicate];split <;> rfl
 refine⟨⟨?_,h1.1,?_⟩,h1.2⟩
 ·refine QA N (fun l=>∀n,lAt l n<=201) (fun l h r hr=>?_) _ _ (fun n=>Nat.le_of_eq (h201 n))
  unfold EB;split
  ·rename_i hc
   intro n;simp only at hc ⊢;rw[fE];split
   ·have:=h r.1;omega
   ·exact h n
  ·exact h
 ·intro T hT hC
  refine QA N (fun l=>∀n,T n<=lAt l n) (fun l h r hr=>?_) _ _ (fun n=>by rw[h201];exact hT n);unfold EB;split
  ·intro n
   simp only;rw[fE];split
   ·rename_i h2
    rw[<-h2.1];exact lT_ (hC r hr) (QS h r.2)
   ·exact h n
  ·exact h
/- What begins a name. -/
def FA (E:Nat->Bool) (ps:List Pt):Bool:=ps.all fun p=>match p with | .tok _=>false | .nam n=>E n
def DT (E S:Nat->Bool) (t:Nat):List Pt->Bool
 | []=>false
 | .tok u::_=>u==t
 | .nam n::ps=>S n||(E n&&DT E S t ps)
theorem R7 {E S T:Nat->Bool}{t:Nat} (h:∀n,S n=true->T n=true):∀ps,DT E S t ps=true->DT E T t ps=true
 | [],hb=>hb
 | .tok u::_,hb=>hb
 | .nam n::ps,hb=>by
  simp only[DT,Bool.or_eq_true,Bool.and_eq_true]at hb ⊢;exact hb.imp (h n) (fun hb=>⟨hb.1,R7 h ps hb.2⟩)
def WY (N:NG) (E:Nat->Bool) (t:Nat) (S:Nat->Bool):Prop:=∀r∈N.rules,DT E S t r.2=true->S r.1=true
def orB (a b:List Bool):List Bool:=a.zipWith (· || ·) b
def mAt (h:List (List Bool)) (n:Nat):List Bool:=h.getD n []
theorem lV {a b:List Bool} (h:a.length=b.length) (t:Nat):bAt (orB a b) t=(bAt a t||bAt b t):=by
 unfold bAt orB;simp only[gD_,List.getElem?_zipWith]
 by_cases ht:t<a.length
 ·rw[gE ht,gE (by omega)];rfl
 ·rw[List.getElem?_eq_none (by omega),List.getElem?_eq_none (by omega)];rfl
def ID (h:List (List Bool)) (E:Nat->Bool):List Pt->List Bool->List Bool × Bool
 | [],out=>(out,true)
 | .tok t::_,out=>(out.set t true,false)
 | .nam n::ps,out=>if E n then ID h E ps (orB out (mAt h n))else(orB out (mAt h n),false)
def MOk (N:NG) (h:List (List Bool)):Prop:=h.length=N.nN/\∀n,n<N.nN->(mAt h n).length=N.nT+1
def AY (N:NG) (ps:List Pt):Prop:=(∀n,Pt.nam n∈ps->n<N.nN)/\(∀t,Pt.tok t∈ps->t<N.nT)
theorem AY.tail {p:Pt}{ps:List Pt} (h:AY N (p::ps)):AY N ps:=⟨fun n hn=>h.1 n (List.mem_cons_of_mem _ hn),fun n hn=>h.2 n (List.mem_cons_of_mem _ hn)⟩
theorem NG.Ok.ps  (h:N.Ok)  (hr:r∈N.rules):AY N r.2:=⟨h.pn r hr,h.pt r hr⟩
def col (h:List (List Bool)) (t n:Nat):Bool:=bAt (mAt h n) t
theorem SG  (hM:MOk N h) (E:Nat->Bool):∀(ps:List Pt) (out:List Bool),AY N ps->out.length=N.nT+1->
  (ID h E ps out).1.length=N.nT+1/\(ID h E ps out).2=FA E ps/\∀t,bAt (ID h E ps out).1 t=(bAt out t||DT E (col h t) t ps):=by
 intro ps
 induction ps with
 |nil=>intro out _ ho;exact⟨ho,rfl,fun t=>by simp[ID,DT]⟩
 |cons p ps ih=>
  intro out hp ho;cases p with
  |tok u=>
   have hu:=hp.2 u (List.mem_cons_self ..);refine⟨by simpa[ID] using ho,by simp[ID,FA],fun t=>?_⟩;show bAt (out.set u true) t=(bAt out t||(u==t));rw[FM]
   by_cases e:u=t
   ·rw[if_pos ⟨e,by omega⟩,e];simp
   ·rw[if_neg (fun h=>e h.1)];simp[e]
  |nam n=>
   have hn:=hp.1 n (List.mem_cons_self ..);have hl:(orB out (mAt h n)).length=N.nT+1:=by
    unfold orB;rw[List.length_zipWith,ho,hM.2 n hn];simp
   have ho':∀t,bAt (orB out (mAt h n)) t=(bAt out t||col h t n):=fun t=>lV (by rw[ho,hM.2 n hn]) t
   unfold ID;cases he:E n
   ·simp only[Bool.false_eq_true,if_false]
    refine⟨hl,by simp[FA,he],fun t=>?_⟩;rw[ho',DT,he];simp
   ·simp only[if_true]
    obtain⟨h1,h2,h3⟩:=ih (orB out (mAt h n)) hp.tail hl;refine⟨h1,by rw[h2];simp[FA,he],fun t=>?_⟩;rw[h3,ho',DT,he,Bool.or_assoc];simp
def DD (h:List (List Bool)) (t:Nat):List Bool:=h.map fun row=>bAt row t
theorem JG (h:List (List Bool)) (t n:Nat):bAt (DD h t) n=col h t n:=by
 unfold DD col mAt bAt;simp only[gD_,gM];cases h[n]? <;> simp
theorem TA (h:List (List Bool)) (n t:Nat) (row:List Bool):DD (h.set n row) t=(DD h t).set n (bAt row t):=by unfold DD;rw[List.map_set]
theorem bT:l.set n (bAt l n)=l:=by
 apply List.ext_getElem?;intro i;rw[List.getElem?_set];split
 ·rename_i h
  subst h;unfold bAt
  by_cases hl:n<l.length
  ·simp[hl]
  ·simp[hl]
 ·rfl
def FH (N:NG):List Bool:=List.replicate (N.nT+1) false
def N5 (N:NG) (E:Nat->Bool) (h:List (List Bool)) (r:Nat × List Pt):List (List Bool):=h.set r.1 (orB (mAt h r.1) (ID h E r.2 (FH N)).1)
def mC (N:NG) (E:Nat->Bool) (h:List (List Bool)):List (List Bool):=N.rules.foldl (N5 N E) h
def IU (N:NG) (E:Nat->Bool):List (List Bool):=EJ (mC N E) (N.nN+1) (List.replicate N.nN (FH N))
theorem sO (h:List (List Bool)) (n m:Nat) (v:List Bool):mAt (h.set n v) m=if n=m/\n<h.length then v else mAt h m:=by
 unfold mAt;simp only[gD_,List.getElem?_set]
 by_cases e:n=m
 ·subst e
  by_cases hl:n<h.length <;> simp[hl]
 ·simp[e]
theorem MOk.set  (hM:MOk N h) {v:List Bool} (hv:v.length=N.nT+1):MOk N (h.set n v):=by
 refine⟨by simpa using hM.1,fun m hm=>?_⟩;rw[sO];split
 ·exact hv
 ·exact hM.2 m hm
theorem vM (N:NG):MOk N (List.replicate N.nN (FH N)):=by
 refine⟨by simp,fun n hn=>?_⟩;unfold mAt;rw[gD_,List.getElem?_replicate,if_pos hn];simp[FH]
theorem vW (N:NG) (t n:Nat):col (List.replicate N.nN (FH N)) t n=false:=by
 unfold col mAt;rw[gD_,List.getElem?_replicate];split
 ·exact MN _ _
 ·rfl
theorem SH  (hN:N.Ok) (E:Nat->Bool)  (hM:MOk N h)  (hr:r∈N.rules):
  MOk N (N5 N E h r)/\∀t,DD (N5 N E h r) t=if DT E (bAt (DD h t)) t r.2=true then(DD h t).set r.1 true else DD h t:=by
 obtain⟨h1,_,h3⟩:=SG hM E r.2 (FH N) (hN.ps hr) (by simp[FH]);have hl:=hM.2 r.1 (hN.lt r hr);refine⟨hM.set (by unfold orB;rw[List.length_zipWith,hl,h1];simp),fun t=>?_⟩;unfold N5;rw[TA,lV (by rw[hl,h1]),h3];have e:col h t=bAt (DD h t):=funext fun n=>(JG h t n).symm
 rw[show bAt (FH N) t=false from MN _ _,Bool.false_or,e];have e2:bAt (mAt h r.1) t=bAt (DD h t) r.1:=(JG h t r.1).symm;rw[e2];cases hb:DT E (bAt (DD h t)) t r.2
 ·simp only[Bool.or_false,Bool.false_eq_true,if_false]
  exact bT
 ·simp
theorem oU  (step:List (List Bool)->Nat × List Pt->List (List Bool)) (cs:List Bool->Nat × List Pt->List Bool) (t:Nat)
  (h:∀m,MOk N m->∀r∈N.rules,MOk N (step m r)/\DD (step m r) t=cs (DD m t) r):∀(rs:List (Nat × List Pt)),(∀r∈rs,r∈N.rules)->∀m,MOk N m->MOk N (rs.foldl step m)/\DD (rs.foldl step m) t=rs.foldl cs (DD m t):=by
 intro rs
 induction rs with
 |nil=>intro _ m hm;exact⟨hm,rfl⟩
 |cons x r ih=>
  intro hr m hm;obtain⟨h1,h2⟩:=h m hm x (hr x (List.mem_cons_self ..));rw[List.foldl_cons,List.foldl_cons,<-h2];exact ih (fun q hq=>hr q (List.mem_cons_of_mem _ hq)) _ h1
theorem XN  (step:List (List Bool)->Nat × List Pt->List (List Bool)) (cs:List Bool->Nat × List Pt->List Bool) (t:Nat)
  (h:∀m,MOk N m->∀r∈N.rules,MOk N (step m r)/\DD (step m r) t=cs (DD m t) r):∀(k:Nat) (m:List (List Bool)),MOk N m->
   MOk N (EJ (fun s=>N.rules.foldl step s) k m)/\DD (EJ (fun s=>N.rules.foldl step s) k m) t=EJ (fun s=>N.rules.foldl cs s) k (DD m t):=by
 intro k
 induction k with
 |zero=>intro m hm;exact⟨hm,rfl⟩
 |succ k ih=>
  intro m hm;obtain⟨h1,h2⟩:=oU step cs t h N.rules (fun _ h=>h) m hm;show MOk N (EJ _ k (N.rules.foldl step m))/\DD (EJ _ k (N.rules.foldl step m)) t=EJ _ k (N.rules.foldl cs (DD m t));rw[<-h2];exact ih _ h1
theorem T7 (h:List (List Bool)) (t:Nat):(DD h t).length=h.length:=by unfold DD;simp
theorem PU (N:NG) (hN:N.Ok) (E:Nat->Bool):MOk N (IU N E)/\∀t,Lfp (WY N E t) (col (IU N E) t):=by
 have hit:=fun t=>XN (N5 N E) (fun c r=>if DT E (bAt c) t r.2=true then c.set r.1 true else c) t (fun m hm r hr=>⟨(SH hN E hm hr).1,(SH hN E hm hr).2 t⟩) (N.nN+1) (List.replicate N.nN (FH N)) (vM N)
 refine⟨(hit 0).1,fun t=>?_⟩;obtain⟨_,ht⟩:=hit t;have e:col (IU N E) t=bAt (EJ (fun s=>N.rules.foldl (fun c r=>if DT E (bAt c) t r.2=true then c.set r.1 true else c) s) (N.nN+1) (DD (List.replicate N.nN (FH N)) t)):=by
  funext n
  rw[<-ht];exact(JG _ _ _).symm
 rw[e];have h0:(DD (List.replicate N.nN (FH N)) t).length=N.nN:=by rw[T7];simp
 have hfix:=MA (fun(c:List Bool) (r:Nat × List Pt)=>if DT E (bAt c) t r.2=true then c.set r.1 true else c) GR (fun s=>s.length=N.nN) N.rules (fun s hs r hr=>by
  split
  ·exact⟨PJ s r.1,by simpa using hs⟩
  ·exact⟨.inl rfl,hs⟩) (N.nN+1) (DD (List.replicate N.nN (FH N)) t) h0 (by have:=RR (DD (List.replicate N.nN (FH N)) t);omega)
 generalize hf:EJ (fun s=>N.rules.foldl (fun c r=>if DT E (bAt c) t r.2=true then c.set r.1 true else c) s) (N.nN+1) (DD (List.replicate N.nN (FH N)) t)=fin at hfix ⊢
 obtain⟨hlen,hst⟩:=hfix;refine⟨fun r hr he=>?_,fun T hT=>?_⟩
 ·have h2:=hst r hr
  rw[if_pos he]at h2;have h3:=NM h2 r.1;rw[FM,if_pos ⟨rfl,by rw[hlen];exact hN.lt r hr⟩]at h3;exact h3.symm
 ·rw[<-hf]
  refine MD (fun(c:List Bool) (r:Nat × List Pt)=>if DT E (bAt c) t r.2=true then c.set r.1 true else c) (fun s=>∀n,bAt s n=true->T n=true) N.rules (fun s hs r hr=>?_) _ _ (fun n h=>by rw[JG,vW]at h;cases h);intro n hn;split at hn
  ·rename_i he
   rw[FM]at hn;split at hn
   ·rename_i h1
    rw[<-h1.1];exact hT r hr (R7 hs _ he)
   ·exact hs n hn
  ·exact hs n hn
def VV (N:NG) (E H:Nat->Bool) (t:Nat) (S:Nat->Bool):Prop:=
 (t=N.nT->S 0=true)/\∀r∈N.rules,∀pre m post,r.2=pre++Pt.nam m::post->(DT E H t post||(FA E post&&S r.1))=true->S m=true
def orT (a l:List Bool) (thr:Bool) (b:List Bool):List Bool:=(List.range a.length).map fun t=>(bAt a t||bAt l t)||(thr&&bAt b t)
theorem MH {t:Nat} (h:l.length<=t):bAt l t=false:=by
 unfold bAt;rw[gD_,List.getElem?_eq_none h];rfl
theorem sW {a b:List Bool}{thr:Bool} (h1:l.length=a.length) (h2:b.length=a.length) (t:Nat):bAt (orT a l thr b) t=((bAt a t||bAt l t)||(thr&&bAt b t)):=by
 by_cases ht:t<a.length
 ·unfold orT
  rw[bAt,gD_,gM,List.getElem?_range ht];rfl
 ·rw[MH (l:=a) (by omega),MH (l:=l) (by omega),MH (l:=b) (by omega),MH (by unfold orT;simp;omega)];simp
def Q6 (N:NG) (H:List (List Bool)) (E:Nat->Bool) (n:Nat):List Pt->List (List Bool)->List (List Bool)
 | [],f=>f
 | .tok _::ps,f=>Q6 N H E n ps f
 | .nam m::ps,f=>Q6 N H E n ps (f.set m (orT (mAt f m) (ID H E ps (FH N)).1 (ID H E ps (FH N)).2 (mAt f n)))
def FD (E S:Nat->Bool) (t n:Nat):List Pt->List Bool->List Bool
 | [],c=>c
 | .tok _::ps,c=>FD E S t n ps c
 | .nam m::ps,c=>FD E S t n ps (if(DT E S t ps||(FA E ps&&bAt c n))=true then c.set m true else c)
def nM (N:NG) (H:List (List Bool)) (E:Nat->Bool) (f:List (List Bool)):List (List Bool):=N.rules.foldl (fun f r=>Q6 N H E r.1 r.2 f) f
def KO (N:NG):List (List Bool):=(List.replicate N.nN (FH N)).set 0 ((FH N).set N.nT true)
def OG (N:NG) (H:List (List Bool)) (E:Nat->Bool):List (List Bool):=EJ (nM N H E) (N.nN*(N.nN+1)+1) (KO N)
theorem pL {H:List (List Bool)} (hH:MOk N H) (E:Nat->Bool)  (hn:n<N.nN) (t:Nat):∀(ps:List Pt),AY N ps->∀f,MOk N f->MOk N (Q6 N H E n ps f)/\DD (Q6 N H E n ps f) t=FD E (col H t) t n ps (DD f t):=by
 intro ps
 induction ps with
 |nil=>intro _ f hf;exact⟨hf,rfl⟩
 |cons p ps ih=>
  intro hp f hf;cases p with
  |tok u=>exact ih hp.tail f hf
  |nam m=>
   have hm:=hp.1 m (List.mem_cons_self ..);obtain⟨h1,h2,h3⟩:=SG hH E ps (FH N) hp.tail (by simp[FH]);have l1:=hf.2 m hm;have l2:=hf.2 n hn;have hM:MOk N (f.set m (orT (mAt f m) (ID H E ps (FH N)).1 (ID H E ps (FH N)).2 (mAt f n))):=hf.set (by unfold orT;simp[l1]);obtain⟨h4,h5⟩:=ih hp.tail _ hM;refine⟨h4,?_⟩;unfold Q6 FD;rw[h5,TA,sW (by rw[h1,l1]) (by rw[l2,l1]),h2,h3];rw[show bAt (FH N) t=false from MN _ _,Bool.false_or];have e1:bAt (mAt f m) t=bAt (DD f t) m:=(JG f t m).symm;have e2:bAt (mAt f n) t=bAt (DD f t) n:=(JG f t n).symm;rw[e1,e2,Bool.or_assoc];cases hb:(DT E (col H t) t ps||(FA E ps&&bAt (DD f t) n))
   ·simp only[Bool.or_false,Bool.false_eq_true,if_false]
    rw[bT]
   ·simp
theorem YB (E S:Nat->Bool) (t n:Nat):∀(ps:List Pt) (c:List Bool),(FD E S t n ps c).length=c.length/\((FD E S t n ps c=c/\∀pre m post,ps=pre++Pt.nam m::post->(DT E S t post||(FA E post&&bAt c n))=true->m<c.length->bAt c m=true)\/GR (FD E S t n ps c)<GR c):=by
 intro ps
 induction ps with
 |nil=>intro c;exact⟨rfl,.inl ⟨rfl,fun pre m post h=>by simp at h⟩⟩
 |cons p ps ih=>
  intro c;cases p with
  |tok u=>
   obtain⟨h0,h⟩:=ih c;refine⟨h0,?_⟩
   rcases h with⟨h1,h2⟩ |h
   ·refine .inl ⟨h1,fun pre m post hp=>?_⟩
    cases pre with
    |nil=>injection hp with hp _;cases hp
    |cons q pre=>injection hp with _ hp;exact h2 pre m post hp
   ·exact .inr h
  |nam k=>
   by_cases hc:(DT E S t ps||(FA E ps&&bAt c n))=true
   ·have e:FD E S t n (.nam k::ps) c=FD E S t n ps (c.set k true):=by rw[FD,if_pos hc]
    obtain⟨h0,h⟩:=ih (c.set k true);rw[e];refine⟨by rw[h0];simp,?_⟩
    rcases PJ c k with hs |hs
    ·rw[hs]at h ⊢
     rcases h with⟨h1,h2⟩ |h
     ·refine .inl ⟨h1,fun pre m post hp hq hm=>?_⟩
      cases pre with
      |nil=>
       injection hp with hp _
       injection hp with hp
       subst hp;have:=NM hs k;rw[FM,if_pos ⟨rfl,hm⟩]at this;exact this.symm
      |cons q pre=>injection hp with _ hp;exact h2 pre m post hp hq hm
     ·exact .inr h
    ·right
     rcases h with⟨h1,_⟩ |h
     ·rw[h1];exact hs
     ·omega
   ·have e:FD E S t n (.nam k::ps) c=FD E S t n ps c:=by rw[FD,if_neg hc]
    obtain⟨h0,h⟩:=ih c;rw[e];refine⟨h0,?_⟩
    rcases h with⟨h1,h2⟩ |h
    ·refine .inl ⟨h1,fun pre m post hp hq hm=>?_⟩
     cases pre with
     |nil=>injection hp with _ hp;subst hp;exact absurd hq hc
     |cons q pre=>injection hp with _ hp;exact h2 pre m post hp hq hm
    ·exact .inr h
theorem dF {E S T:Nat->Bool}{t:Nat}:∀(ps:List Pt) (c:List Bool),(∀k,bAt c k=true->T k=true)->
  (∀pre m post,ps=pre++Pt.nam m::post->(DT E S t post||(FA E post&&T n))=true->T m=true)->∀k,bAt (FD E S t n ps c) k=true->T k=true:=by
 intro ps
 induction ps with
 |nil=>intro c h _ k hk;exact h k hk
 |cons p ps ih=>
  intro c h hp;have hp':∀pre m post,ps=pre++Pt.nam m::post->(DT E S t post||(FA E post&&T n))=true->T m=true:=fun pre m post e=>hp (p::pre) m post y79Z
  cases p with
  |tok u=>exact ih c h hp'
  |nam m=>
   unfold FD;refine ih _ (fun k hk=>?_) hp';split at hk
   ·rename_i hc
    rw[FM]at hk;split at hk
    ·rename_i h1
     rw[<-h1.1];refine hp [] m ps rfl ?_;simp only[Bool.or_eq_true,Bool.and_eq_true]at hc ⊢;exact hc.imp id (fun hc=>⟨hc.1,h n hc.2⟩)
    ·exact h k hk
   ·exact h k hk
theorem jS (N:NG) (hN:N.Ok) (H:List (List Bool)) (hH:MOk N H) (E:Nat->Bool):MOk N (OG N H E)/\∀t,Lfp (VV N E (col H t) t) (col (OG N H E) t):=by
 have hm0:MOk N (KO N):=(vM N).set (by simp[FH]);have hit:=fun t=>XN (fun f r=>Q6 N H E r.1 r.2 f) (fun c r=>FD E (col H t) t r.1 r.2 c) t (fun m hm r hr=>pL hH E (hN.lt r hr) t r.2 (hN.ps hr) m hm) (N.nN*(N.nN+1)+1) (KO N) hm0
 refine⟨(hit 0).1,fun t=>?_⟩;obtain⟨_,ht⟩:=hit t;have e:col (OG N H E) t=bAt (EJ (fun s=>N.rules.foldl (fun c r=>FD E (col H t) t r.1 r.2 c) s) (N.nN*(N.nN+1)+1) (DD (KO N) t)):=by
  funext n
  rw[<-ht];exact(JG _ _ _).symm
 rw[e];have h0:(DD (KO N) t).length=N.nN:=by rw[T7];simp[KO]
 have hz:∀k,bAt (DD (KO N) t) k=true↔(k=0/\t=N.nT):=by
  intro k;unfold KO;rw[TA,FM,FM,JG,vW];have h1:0< (DD (List.replicate N.nN (FH N)) t).length:=by rw[T7];simpa using hN.pos
  by_cases hk:0=k
  ·rw[if_pos ⟨hk,h1⟩]
   by_cases htn:N.nT=t
   ·rw[if_pos ⟨htn,by simp[FH]⟩];simp[hk.symm,htn.symm]
   ·rw[if_neg (fun h=>htn h.1),show bAt (FH N) t=false from MN _ _];simp;intro _ h;exact absurd h.symm htn
  ·rw[if_neg (fun h=>hk h.1)];simp;intro h;exact absurd h.symm hk
 have hfix:=MA (fun(c:List Bool) (r:Nat × List Pt)=>FD E (col H t) t r.1 r.2 c) GR (fun s=>s.length=N.nN/\(t=N.nT->bAt s 0=true)) N.rules (fun s hs r hr=>by
  obtain⟨h1,h2⟩:=YB E (col H t) t r.1 r.2 s;refine⟨h2.imp (fun h=>h.1) id,h1.trans hs.1,fun htn=>?_⟩;have hmono:∀(ps:List Pt) (c:List Bool),bAt c 0=true->bAt (FD E (col H t) t r.1 ps c) 0=true:=by
   intro ps
   induction ps with
   |nil=>intro c h;exact h
   |cons p ps ih=>
    intro c h;cases p with
    |tok u=>exact ih c h
    |nam m=>
     unfold FD;refine ih _ ?_;split
     ·rw[FM]
      split
      ·rfl
      ·exact h
     ·exact h
  exact hmono r.2 s (hs.2 htn)) (N.nN*(N.nN+1)+1) (DD (KO N) t) ⟨h0,fun htn=>(hz 0).2 ⟨rfl,htn⟩⟩ (by
   have h1:=RR (DD (KO N) t);rw[h0]at h1;have h2:N.nN*1<=N.nN*(N.nN+1):=Nat.mul_le_mul_left _ (by omega);omega)
 generalize hf:EJ (fun s=>N.rules.foldl (fun c r=>FD E (col H t) t r.1 r.2 c) s) (N.nN*(N.nN+1)+1) (DD (KO N) t)=fin at hfix ⊢
 obtain⟨⟨hlen,hz0⟩,hst⟩:=hfix;refine⟨⟨hz0,fun r hr pre m post hp hq=>?_⟩,fun T hT=>?_⟩
 ·rcases(YB E (col H t) t r.1 r.2 fin).2 with h2 |h2
  ·exact h2.2 pre m post hp hq (by rw[hlen];exact hN.pn r hr m (by rw[hp];simp))
  ·rw[hst r hr]at h2;omega
 ·rw[<-hf]
  refine MD (fun(c:List Bool) (r:Nat × List Pt)=>FD E (col H t) t r.1 r.2 c) (fun s=>∀n,bAt s n=true->T n=true) N.rules (fun s hs r hr=>?_) _ _ (fun n h=>by
   have:=(hz n).1 h;rw[this.1];exact hT.1 this.2)
  exact dF r.2 s hs (fun pre m post hp hq=>hT.2 r hr pre m post hp hq)
structure Fa where
 least:Nat
 reached:Bool
 first:Nat
 follow:Nat
deriving DecidableEq
def B3 (k:List Fa) (n:Nat):Nat:=(k[n]?.map (·.least)).getD 202
def EP (k:List Fa) (n:Nat):Bool:=(k[n]?.map (·.reached)).getD false
def AL (k:List Fa) (n:Nat):Nat:=(k[n]?.map (·.first)).getD 0
def B2 (k:List Fa) (n:Nat):Nat:=(k[n]?.map (·.follow)).getD 0
def LX (N:NG) (k:List Fa):Pt->Nat
 | .tok t=>N.put t
 | .nam n=>B3 k n
def DC (N:NG) (k:List Fa):List Pt->Nat->Nat
 | [],s=>s
 |p::ps,s=>if LX N k p=202 then 202 else DC N k ps (min (s+LX N k p) 201)
def EA (N:NG) (k:List Fa) (r:Nat × List Pt):List Fa:=k.modify r.1 fun a=>{a with least:=min a.least (DC N k r.2 0)}
theorem J5 (k:List Fa) (n m:Nat) (f:Fa->Fa):(k.modify n f)[m]?=if n=m then k[m]?.map f else k[m]?:=by
 rw[List.getElem?_modify]
 by_cases h:n=m
 ·simp[h]
 ·simp[h]
theorem T2 {k:List Fa}{f:Fa->Fa} (h:∀a,k[n]?=some a->f a=a):k.modify n f=k:=by
 apply List.ext_getElem?;intro m;rw[J5];split
 ·rename_i e
  subst e;cases hk:k[n]? with
  |none=>rfl
  |some a=>simp[h a hk]
 ·rfl
def FU (μ:Fa->Nat) (k:List Fa):Nat:=(k.map μ).sum
theorem T1 (μ:Fa->Nat):∀(k:List Fa) (n:Nat) (f:Fa->Fa) (a:Fa),k[n]?=some a->FU μ (k.modify n f)+μ a=FU μ k+μ (f a)
 | [],n,f,a,h=>by simp at h
 |b::r,0,f,a,h=>by
  simp at h;subst h;simp[FU];omega
 |b::r,n+1,f,a,h=>by
  have:=T1 μ r n f a y20Z;simp only[FU,List.modify_succ_cons,List.map_cons,List.sum_cons]at this ⊢;omega
theorem NE {μ:Fa->Nat}{k:List Fa}{f:Fa->Fa} (h:∀a,k[n]?=some a->f a=a\/μ (f a)<μ a):k.modify n f=k\/FU μ (k.modify n f)<FU μ k:=by
 cases hk:k[n]? with
 |none=>left;exact T2 (fun a ha=>by rw[hk]at ha;cases ha)
 |some a=>
  rcases h a hk with h1 |h1
  ·left;exact T2 (fun b hb=>by rw[hk]at hb;cases hb;exact h1)
  ·right
   have:=T1 μ k n f a hk;omega
theorem KS (N:NG) (k:List Fa) (hp:∀t,t<N.nT->N.put t<=99):∀(ps:List Pt) (s:Nat),AY N ps->s<=201->
  (DC N k ps s=202/\∃n,Pt.nam n∈ps/\B3 k n=202)\/((∀n,Pt.nam n∈ps->B3 k n≠202)/\DC N k ps s=min (s+DP N (B3 k) ps) 201)
 | [],s,_,h=>by right;exact⟨(fun n h=>by cases h),(by simp only[DC,DP];omega)⟩
 |p::ps,s,ho,h=>by
  simp only[DC];cases p with
  |tok t=>
   have h1:=hp t (ho.2 t (List.mem_cons_self ..));have e:LX N k (.tok t)=N.put t:=rfl;rw[e,if_neg (by omega)]
   rcases KS N k hp ps (min (s+N.put t) 201) ho.tail (by omega)with⟨h2,n,h3,h4⟩ | ⟨h2,h3⟩
   ·exact .inl ⟨h2,n,List.mem_cons_of_mem _ h3,h4⟩
   ·refine .inr ⟨fun n hn=>?_,?_⟩
    ·rcases List.mem_cons.1 hn with hn |hn
     ·cases hn
     ·exact h2 n hn
    ·rw[h3];simp only[DP];omega
  |nam m=>
   have e:LX N k (.nam m)=B3 k m:=rfl;rw[e]
   by_cases hb:B3 k m=202
   ·rw[if_pos hb];exact .inl ⟨rfl,m,List.mem_cons_self ..,hb⟩
   ·rw[if_neg hb]
    rcases KS N k hp ps (min (s+B3 k m) 201) ho.tail (by omega)with⟨h2,n,h3,h4⟩ | ⟨h2,h3⟩
    ·exact .inl ⟨h2,n,List.mem_cons_of_mem _ h3,h4⟩
    ·refine .inr ⟨fun n hn=>?_,?_⟩
     ·rcases List.mem_cons.1 hn with hn |hn
      ·injection hn with hn;subst hn;exact hb
      ·exact h2 n hn
     ·rw[h3];simp only[DP];omega
theorem QT (k:List Fa) (n m:Nat) (f:Fa->Fa):B3 (k.modify n f) m=if n=m/\m<k.length then(k[m]?.map fun a=>(f a).least).getD 202 else B3 k m:=by
 unfold B3;rw[J5]
 by_cases h:n=m
 ·subst h
  by_cases hl:n<k.length
  ·rw[if_pos rfl,if_pos ⟨rfl,hl⟩,gE hl];rfl
  ·rw[if_pos rfl,if_neg (fun h=>hl h.2),List.getElem?_eq_none (by omega)];rfl
 ·rw[if_neg h,if_neg (fun e=>h e.1)]
def o6 (k:List Fa):Prop:=∀a∈k,a.reached=false/\a.first=0/\a.follow=0
structure I2 (N:NG) (k:List Fa):Prop where
 len:k.length=N.nN
 only:o6 k
 le:∀n,B3 k n<=202
 bar:∀T,ON N true T->∀n,B3 k n≠202->T n=true
 nul:∀T,ON N false T->∀n,B3 k n=0->T n=true
 gr:∀T:Nat->Nat,(∀n,T n<=201)->OT N T->∀n,T n<=min (B3 k n) 201
theorem jC {k:List Fa}{f:Fa->Fa}{b:Fa} (h:b∈k.modify n f):b∈k\/∃a∈k,b=f a:=by
 obtain⟨m,hm,rfl⟩:=List.mem_iff_getElem.1 h;have h1:=J5 k n m f;rw[gE hm]at h1;rw[List.length_modify]at hm;rw[gE hm]at h1;split at h1
 ·injection h1 with h1;exact .inr ⟨_,List.getElem_mem hm,h1⟩
 ·injection h1 with h1;exact .inl (h1▸List.getElem_mem hm)
theorem cX  (hN:N.Ok) {k:List Fa} (h:I2 N k)  (hr:r∈N.rules):
  (EA N k r=k\/FU (·.least) (EA N k r)<FU (·.least) k)/\I2 N (EA N k r):=by
 have hlt:=hN.lt r hr;have hll:r.1<k.length:=by rw[h.len];exact hlt
 have hs:=KS N k hN.put2 r.2 0 (hN.ps hr) (by omega);rw[Nat.zero_add]at hs;have hfl:∀n,B3 (EA N k r) n=if r.1=n/\n<k.length then min (B3 k n) (DC N k r.2 0)else B3 k n:=by
  intro n;unfold EA;rw[QT];split
  ·rename_i e
   unfold B3;rw[gE e.2];rfl
  ·rfl
 refine⟨?_,⟨by unfold EA;rw[List.length_modify];exact h.len,?_,?_,?_,?_,?_⟩⟩
 ·refine NE (μ:=(·.least)) (fun a _=>?_)
  by_cases hc:a.least<=DC N k r.2 0
  ·left;rw[Nat.min_eq_left hc]
  ·right;show min a.least _<a.least;omega
 ·intro b hb
  rcases jC hb with hb | ⟨a,ha,rfl⟩
  ·exact h.only b hb
  ·exact h.only a ha
 ·intro n
  rw[hfl];have:=h.le n;split <;> omega
 ·intro T hT n hn
  rw[hfl]at hn;split at hn
  ·rename_i e
   by_cases h1:B3 k n=202
   ·rcases hs with⟨h2,_⟩ | ⟨h2,_⟩
    ·rw[h1,h2]at hn;exact absurd rfl hn
    ·rw[<-e.1]
     refine hT r hr ?_;unfold JI;rw[List.all_eq_true];intro p hp;cases p with
     |tok t=>rfl
     |nam m=>exact h.bar T hT m (h2 m hp)
   ·exact h.bar T hT n h1
  ·exact h.bar T hT n hn
 ·intro T hT n hn
  rw[hfl]at hn;split at hn
  ·rename_i e
   by_cases h1:B3 k n=0
   ·exact h.nul T hT n h1
   ·rcases hs with⟨h2,_⟩ | ⟨h2,h3⟩
    ·rw[h2]at hn;omega
    ·have h4:DP N (B3 k) r.2=0:=by omega
     rw[<-e.1];refine hT r hr ?_;have hz:∀ps:List Pt,AY N ps->DP N (B3 k) ps=0->JI ps T false=true:=by
      intro ps
      induction ps with
      |nil=>intro _ _;rfl
      |cons p ps ih=>
       intro ho hz;cases p with
       |tok t=>
        have:=hN.put1 t (ho.2 t (List.mem_cons_self ..));simp only[DP]at hz;omega
       |nam m=>
        simp only[DP]at hz;have h5:=h.nul T hT m (by omega);have h6:=ih ho.tail (by omega);unfold JI at h6 ⊢;rw[List.all_cons,h6];simp[h5]
     exact hz r.2 (hN.ps hr) h4
  ·exact h.nul T hT n hn
 ·intro T hT hC n
  rw[hfl];have h0:=h.gr T hT hC n;split
  ·rename_i e
   rcases hs with⟨h2,_⟩ | ⟨h2,h3⟩
   ·omega
   ·have h4:=hC r hr
    have h5:∀ps:List Pt,(∀n,Pt.nam n∈ps->B3 k n≠202)->DP N T ps<=DP N (B3 k) ps:=by
     intro ps
     induction ps with
     |nil=>intro _;exact lR_ _
     |cons p ps ih=>
      intro hq;have:=ih (fun n hn=>hq n (List.mem_cons_of_mem _ hn));cases p with
      |tok t=>simp only[DP];omega
      |nam m=>
       have h7:=h.gr T hT hC m;simp only[DP];omega
    have h6:=h5 r.2 h2;have h8:=hT n;rw[e.1]at h4;omega
  ·exact h0
theorem VR  (hN:N.Ok) {k:List Fa} (h:I2 N k) (hst:∀r∈N.rules,EA N k r=k):
  Lfp (ON N true) (fun n=>decide (B3 k n≠202))/\Lfp (ON N false) (fun n=>decide (B3 k n=0))/\Gfp N (fun n=>min (B3 k n) 201):=by
 have hcl:∀r∈N.rules,B3 k r.1<=DC N k r.2 0:=by
  intro r hr;have h1:=congrArg (fun q=>B3 q r.1) (hst r hr);simp only[EA]at h1;rw[QT,if_pos ⟨rfl,by rw[h.len];exact hN.lt r hr⟩]at h1;unfold B3 at h1 ⊢;rw[gE (by rw[h.len];exact hN.lt r hr)]at h1 ⊢;simp only[Option.map_some,Option.getD_some]at h1 ⊢;omega
 have hs:=fun r hr=>KS N k hN.put2 r.2 0 (hN.ps (r:=r) hr) (by omega)
 refine⟨⟨fun r hr he=>?_,fun T hT n hn=>h.bar T hT n (of_decide_eq_true hn)⟩,⟨fun r hr he=>?_,fun T hT n hn=>h.nul T hT n (of_decide_eq_true hn)⟩,fun n=>Nat.min_le_right _ _,fun r hr=>?_,h.gr⟩
 ·rcases hs r hr with⟨_,n,h3,h4⟩ | ⟨h2,h3⟩
  ·unfold JI at he
   rw[List.all_eq_true]at he;have:=of_decide_eq_true (he _ h3);exact absurd h4 this
  ·have:=hcl r hr
   exact decide_eq_true (by omega)
 ·have hz:∀ps:List Pt,JI ps (fun n=>decide (B3 k n=0)) false=true->DP N (B3 k) ps=0/\∀n,Pt.nam n∈ps->B3 k n≠202:=by
   intro ps
   induction ps with
   |nil=>intro _;exact⟨rfl,fun n h=>by cases h⟩
   |cons p ps ih=>
    intro hq;unfold JI at hq ih;rw[List.all_cons,Bool.and_eq_true]at hq;obtain⟨h5,h6⟩:=ih hq.2;cases p with
    |tok t=>exact absurd hq.1 (by simp)
    |nam m=>
     have h7:B3 k m=0:=of_decide_eq_true hq.1;refine⟨by simp only[DP];omega,fun n hn=>?_⟩
     rcases List.mem_cons.1 hn with hn |hn
     ·injection hn with hn;subst hn;omega
     ·exact h6 n hn
  obtain⟨h5,h6⟩:=hz r.2 he
  rcases hs r hr with⟨_,n,h3,h4⟩ | ⟨h2,h3⟩
  ·exact absurd h4 (h6 n h3)
  ·have:=hcl r hr
   exact decide_eq_true (by omega)
 ·have h1:=hcl r hr
  rcases hs r hr with⟨h2,n,h3,h4⟩ | ⟨h2,h3⟩
  ·have h5:∀ps:List Pt,Pt.nam n∈ps->201<=DP N (fun n=>min (B3 k n) 201) ps:=by
    intro ps
    induction ps with
    |nil=>intro h;cases h
    |cons p ps ih=>
     intro hq
     rcases List.mem_cons.1 hq with hq |hq
     ·subst hq;simp only[DP];omega
     ·have:=ih hq
      cases p <;> simp only[DP] <;> omega
   have:=h5 r.2 h3;simp only;omega
  ·have h5:∀ps:List Pt,min (DP N (B3 k) ps) 201<=DP N (fun n=>min (B3 k n) 201) ps:=by
    intro ps
    induction ps with
    |nil=>simp[DP]
    |cons p ps ih=>cases p <;> simp only[DP] <;> omega
   have:=h5 r.2;simp only;omega
def OZ (l:List ByteArray) (x:ByteArray):Int:=match l.findIdx? (fun t=>t.toList==x.toList)with
 |some i=>i
 |none=> -1
theorem Bzx (w:World) (q:Nat):Below w.heap.size w (w.drewN q):=below_drewN (Below.refl _ _) q
def EW (l:List ByteArray):List Value:=l.map Value.string
def FO (l:List (ByteArray × Int × Int)):List ByteArray:=l.map (·.1)
def k9 (G:Gr) (x:ByteArray):Pt->Prop
 | .nam n=>OZ G.names x=n
 | .tok t=>OZ G.names x= -1/\OZ (FO G.toks) x=t
def wP (G:Gr) (ws:List ByteArray) (ps:List Pt):Prop:=ws.length=ps.length/\∀j p,ps[j]?=some p->k9 G (nth ws j) p
structure Rep (G:Gr) (N:NG):Prop where
 ok:N.Ok
 nN:N.nN=G.names.length
 nT:N.nT=G.toks.length
 len:N.rules.length=G.rules.length
 rule:∀(i:Nat) (r:ByteArray × List ByteArray) (q:Nat × List Pt),G.rules[i]?=some r->N.rules[i]?=some q->OZ G.names r.1=q.1/\wP G r.2 q.2
 put:∀(t:Nat) (tk:ByteArray × Int × Int),G.toks[t]?=some tk->tk.2.1=(N.put t:Int)
 leN:N.nN<=20
 leT:N.nT<=20
 leR:N.rules.length<=60
 posR:0<N.rules.length
def AQ:Pt->Bool
 | .tok _=>false
 | .nam _=>true
def AP:Pt->Nat
 | .tok t=>t
 | .nam n=>n
def C0 (w:World) (n₀:Nat) (v:Value) (ps:List Pt):Prop:=
 ∃ad cap,v=.slice ad ps.length cap/\ps.length<=cap/\(0<ps.length->∃g off,ad=some (af g off)/\g<n₀/\∀i p,ps[i]?=some p->w.cell? (af g (off+i*2))=some (.bool (AQ p))/\w.cell? (af g (off+i*2+1))=some (ab (AP p)))
theorem C0.below {v:Value}{ps:List Pt} (h:C0 w n₀ v ps) (hb:Below n₀ w w'):C0 w' n₀ v ps:=by
 obtain⟨ad,cap,h1,h2,h3⟩:=h;refine⟨ad,cap,h1,h2,fun h0=>?_⟩;obtain⟨g,off,h4,h5,h6⟩:=h3 h0;exact⟨g,off,h4,h5,fun i p hp=>⟨(hb.cell y42Z).trans (h6 i p hp).1,(hb.cell y42Z).trans (h6 i p hp).2⟩⟩
abbrev Nm:=ByteArray × List (List Pt)
def RD (w:World) (n₀:Nat) (v:Value) (rs:List (List Pt)):Prop:=
 ∃g cap,v=ae g rs.length cap/\g<n₀/\rs.length<=cap/\∀r ps,rs[r]?=some ps->∃p,w.cell? (af g r)=some p/\C0 w n₀ p ps
theorem RD.below {v:Value}{rs:List (List Pt)} (h:RD w n₀ v rs) (hb:Below n₀ w w'):RD w' n₀ v rs:=by
 obtain⟨g,cap,h1,h2,h3,h4⟩:=h;refine⟨g,cap,h1,h2,h3,fun r ps hr=>?_⟩;obtain⟨p,h5,h6⟩:=h4 r ps hr;exact⟨p,(hb.cell (by exact h2)).trans h5,h6.below hb⟩
structure PGr (w:World) (n₀:Nat) (N:NG) (tws:List ByteArray) (pg:List Nm) (adT:Option Addr) (capT gN capN:Nat):Prop where
 ok:N.Ok
 leN:N.nN<=20
 leT:N.nT<=20
 leR:N.rules.length<=60
 lT:N.nT<=capT
 lN:N.nN<=capN
 twl:tws.length=N.nT
 pgl:pg.length=N.nN
 hgN:gN<n₀
 rules:N.rules=pg.zipIdx.flatMap fun x=>x.1.2.map fun ps=>(x.2,ps)
 toks:∀t,t<N.nT->∃gT,adT=some (af gT 0)/\gT<n₀/\w.cell? (af gT (t*4))=some (.string (nth tws t))/\w.cell? (af gT (t*4+1))=some (ab (N.put t))
 toks2:∀t,t<N.nT->∃gT gs cs,adT=some (af gT 0)/\gT<n₀/\w.cell? (af gT (t*4+2))=some (ab (N.drop t))/\w.cell? (af gT (t*4+3))=some (ae gs N.nT cs)/\gs<n₀/\N.nT<=cs/\∀u,u<N.nT->w.cell? (af gs u)=some (ab (N.swp t u))
 names:∀n nm,pg[n]?=some nm->w.cell? (af gN (n*2))=some (.string nm.1)/\∃v,w.cell? (af gN (n*2+1))=some v/\RD w n₀ v nm.2
theorem PGr.below {tws:List ByteArray}{pg:List Nm}{adT:Option Addr}{capT gN capN:Nat} (h:PGr w n₀ N tws pg adT capT gN capN) (hb:Below n₀ w w'):PGr w' n₀ N tws pg adT capT gN capN where
 ok:=h.ok
 leN:=h.leN
 leT:=h.leT
 leR:=h.leR
 lT:=h.lT
 lN:=h.lN
 twl:=h.twl
 pgl:=h.pgl
 hgN:=h.hgN
 rules:=h.rules
 toks:=fun t ht=>by
  obtain⟨gT,h1,h2,h3,h4⟩:=h.toks t ht;exact⟨gT,h1,h2,(hb.cell (by exact h2)).trans h3,(hb.cell (by exact h2)).trans h4⟩
 toks2:=fun t ht=>by
  obtain⟨gT,gs,cs,h1,h2,h3,h4,h5,h6,h7⟩:=h.toks2 t ht;exact⟨gT,gs,cs,h1,h2,(hb.cell (by exact h2)).trans h3,(hb.cell (by exact h2)).trans h4,h5,h6,fun u hu=>(hb.cell y42Z).trans (h7 u hu)⟩
 names:=fun n nm hn=>by
  obtain⟨h1,v,h2,h3⟩:=h.names n nm hn;exact⟨(hb.cell (by exact h.hgN)).trans h1,v,(hb.cell (by exact h.hgN)).trans h2,h3.below hb⟩
def DN (k:List Fa):List Value:=k.flatMap fun a=>[ab a.least,.bool a.reached,.int .u32 a.first,.int .u32 a.follow]
theorem P9 {α:Type} (f:α->List Value) (hf:∀a,(f a).length=4):∀(l:List α) (i:Nat) (a:α) (j:Nat),l[i]?=some a->j<4->(l.flatMap f)[i*4+j]?=(f a)[j]?:=by
 intro l
 induction l with
 |nil=>intro i a j h;simp at h
 |cons x r ih=>
  intro i a j h hj;rw[List.flatMap_cons]
  match i with
  |0=>
   simp at h;subst h;rw[aL y78Z]
   congr 1;omega
  |i+1=>
   simp at h;rw[aR_ y78Z,hf];rw[<-ih i a j h hj]
   congr 1;omega
def KnV (w:World) (kb n:Nat) (k:List Fa):Prop:=k.length=n/\w.ownsRow kb 151 4 (ae kb n n) n (DN k)
theorem KnV.cells {k:List Fa} (h:KnV w kb n k) {i:Nat}{a:Fa} (ha:k[i]?=some a):
  w.cell? (af kb (i*4))=some (ab a.least)/\w.cell? (af kb (i*4+1))=some (.bool a.reached)/\w.cell? (af kb (i*4+2))=some (.int .u32 a.first)/\w.cell? (af kb (i*4+3))=some (.int .u32 a.follow):=by
 have hi:=(gS_.1 ha).1;have hl:=h.1;have h4:=fun j hj=>P9 (fun a:Fa=>[ab a.least,.bool a.reached,.int .u32 a.first,.int .u32 a.follow]) (fun _=>rfl) k i a j ha hj
 refine⟨?_,?_,?_,?_⟩
 ·rw[h.2.cellAt _ (by omega)];exact h4 0 (by omega)
 ·rw[h.2.cellAt _ (by omega)];exact h4 1 (by omega)
 ·rw[h.2.cellAt _ (by omega)];exact h4 2 (by omega)
 ·rw[h.2.cellAt _ (by omega)];exact h4 3 (by omega)
theorem KnV.free {k:List Fa} (h:KnV w kb n k) (j:Nat):w.frozen? (af kb j)=false:=h.2.frozenAt j
theorem KnV.lt {k:List Fa} (h:KnV w kb n k):kb<w.heap.size:=(h.2.lt kb rfl).2
theorem KnV.keeps {k:List Fa}{S:List Nat} (h:KnV w kb n k) (hk:A1 w w' S) (hS:kb∉S):KnV w' kb n k:=⟨h.1,A8 h.2 hk (fun g hg=>by simp[Value.ownBlock]at hg;subst hg;exact hS)⟩
theorem OC (f:Fa->Fa) (j:Nat) (hj:j<4) (u:Value):∀(k:List Fa) (i:Nat),(∀a,k[i]?=some a->[ab (f a).least,.bool (f a).reached,.int .u32 (f a).first,.int .u32 (f a).follow]=[ab a.least,.bool a.reached,.int .u32 a.first,.int .u32 a.follow].set j u)->
  i<k.length->DN (k.modify i f)=(DN k).set (i*4+j) u
 | [],i,_,h=>by simp at h
 |b::r,0,h,_=>by
  have h1:=h b rfl;unfold DN;simp only[List.modify_zero_cons,List.flatMap_cons];rw[h1,Nat.zero_mul,Nat.zero_add,List.set_append_left _ _ (by simpa using hj)]
 |b::r,i+1,h,hl=>by
  have h1:=OC f j hj u r i (fun a ha=>h a (by simpa using ha)) (by simpa using hl);unfold DN at h1 ⊢;simp only[List.modify_succ_cons,List.flatMap_cons];rw[h1,List.set_append_right _ _ y2Z]
  congr 2
  simp;omega
theorem KnV.put {k:List Fa} (h:KnV w kb n k) {i:Nat} (hi:i<n) (f:Fa->Fa) (j:Nat) (hj:j<4) (u:Value)
  (hf:∀a,k[i]?=some a->[ab (f a).least,.bool (f a).reached,.int .u32 (f a).first,.int .u32 (f a).follow]=[ab a.least,.bool a.reached,.int .u32 a.first,.int .u32 a.follow].set j u):
  KnV (w.setCell (af kb (i*4+j)) u) kb n (k.modify i f)/\A1 w (w.setCell (af kb (i*4+j)) u) [kb]:=by
 refine⟨⟨by rw[List.length_modify];exact h.1,?_⟩,(A1.refl w [kb]).setCell (by simp) _⟩;rw[OC f j hj u k i hf (by rw[h.1];exact hi)];exact(h.2.stored (i*4+j) u).1
end Go.Proofs.YtjjggdcnpndgjabGreatDoor
