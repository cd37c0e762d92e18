import Derived.Test.YtjjggdcnpndgjabGreatDoorJ13
set_option linter.unusedSimpArgs false
set_option maxHeartbeats 2000000
set_option maxRecDepth 100000
namespace Go.Proofs.YtjjggdcnpndgjabGreatDoor
open Go.RowKit
variable {N:NG}{a b row:List Nat}{c i j k:Nat}{l:List Pt}{rul:Nat->Nat->Option (List Pt)}{tl:Nat->Option (List Pt)}
inductive Der (N:NG):List Pt->List Nat->Prop
 |nil:Der N [] []
 |tok {t:Nat}{ps:List Pt}{r:List Nat}:Der N ps r->Der N (.tok t::ps) (t::r)
 |nam {n:Nat}{rhs ps:List Pt}{a b:List Nat}:(n,rhs)∈N.rules->Der N rhs a->Der N ps b->Der N (.nam n::ps) (a++b)
inductive Al (N:NG):List Nat->List Nat->Nat->Prop
 |nil:Al N [] [] 0
 |put {a b:List Nat}{c:Nat} (t:Nat):Al N a b c->Al N a (t::b) (N.put t+c)
 |drop {a b:List Nat}{c:Nat} (t:Nat):Al N a b c->Al N (t::a) b (N.drop t+c)
 |keep {a b:List Nat}{c:Nat} (t:Nat):Al N a b c->Al N (t::a) (t::b) c
 |swap {a b:List Nat}{c:Nat} (t u:Nat):N.swp t u≠0->Al N a b c->Al N (t::a) (u::b) (N.swp t u+c)
def AU (N:NG):List Nat->Nat
 | []=>0
 |t::l=>N.drop t+AU N l
theorem OJ (N:NG) (a b:List Nat):AU N (a++b)=AU N a+AU N b:=by
 induction a with
 |nil=>simp[AU]
 |cons t l ih=>simp[AU,ih];omega
theorem Al.refl (N:NG):∀l:List Nat,Al N l l 0
 | []=>.nil
 |t::l=>.keep t (Al.refl N l)
theorem Al.drops {N:NG}{a b:List Nat}{c:Nat} (h:Al N a b c):∀d:List Nat,Al N (d++a) b (AU N d+c)
 | []=>by simpa[AU] using h
 |t::d=>by
  have:=Al.drop t (Al.drops h d);rw[<-Nat.add_assoc]at this;exact this
theorem vJ  (h:Al N a b c):b=[]->c=AU N a:=by
 induction h with
 |nil=>intro _;rfl
 |put t _ _=>intro h;cases h
 |drop t _ ih=>intro h;rw[ih h];rfl
 |keep t _ _=>intro h;cases h
 |swap t u _ _ _=>intro h;cases h
def JY (N:NG) (x t:Nat):Option Nat:=if x=t then some 0 else if N.swp x t=0 then none else some (N.swp x t)
theorem uW {r:List Nat} (h:Al N a r c):∀{t:Nat}{b:List Nat},r=t::b->
  (∃c',Al N a b c'/\N.put t+c'<=c)\/(∃d x a' c' k,a=d++x::a'/\Al N a' b c'/\JY N x t=some k/\AU N d+k+c'<=c):=by
 induction h with
 |nil=>intro _ _ h;cases h
 | @put a b c u hb ih=>
  intro t b' h;injection h with h1 h2
  subst h1;subst h2;exact .inl ⟨_,hb,lR_ _⟩
 | @drop a b c u hb ih=>
  intro t b' h
  rcases ih h with⟨c',h1,h2⟩ | ⟨d,x,a',c',k,h1,h2,h3,h4⟩
  ·exact .inl ⟨_,.drop u h1,by omega⟩
  ·refine .inr ⟨u::d,x,a',c',k,by rw[h1];rfl,h2,h3,?_⟩
   simp only[AU];omega
 | @keep a b c u hb ih=>
  intro t b' h;injection h with h1 h2
  subst h1;subst h2;exact .inr ⟨[],u,a,c,0,rfl,hb,by simp[JY],by simp[AU]⟩
 | @swap a b c u v hs hb ih=>
  intro t b' h;injection h with h1 h2
  subst h1;subst h2
  by_cases he:u=v
  ·subst he
   exact .inr ⟨[],u,a,c,0,rfl,hb,by simp[JY],by simp[AU]⟩
  ·exact .inr ⟨[],u,a,c,N.swp u v,rfl,hb,by simp[JY,he,hs],by simp[AU]⟩
theorem oV {r:List Nat} (h:Al N a r c):∀(x y:List Nat),r=x++y->∃a1 a2 c1 c2,a=a1++a2/\Al N a1 x c1/\Al N a2 y c2/\c1+c2<=c:=by
 induction h with
 |nil=>
  intro x y h;obtain⟨rfl,rfl⟩:=List.append_eq_nil_iff.1 h.symm;exact⟨[],[],0,0,rfl,.nil,.nil,lR_ _⟩
 | @put a b c u hb ih=>
  intro x y h;cases x with
  |nil=>
   simp only[List.nil_append]at h;subst h;exact⟨[],a,0,_,rfl,.nil,Al.put u hb,by omega⟩
  |cons x0 x=>
   injection h with h1 h2
   subst h1;obtain⟨a1,a2,c1,c2,e,k1,k2,k3⟩:=ih x y h2;exact⟨a1,a2,_,c2,e,.put u k1,k2,by omega⟩
 | @drop a b c u hb ih=>
  intro x y h;obtain⟨a1,a2,c1,c2,e,k1,k2,k3⟩:=ih x y h;exact⟨u::a1,a2,_,c2,by rw[e];rfl,.drop u k1,k2,by omega⟩
 | @keep a b c u hb ih=>
  intro x y h;cases x with
  |nil=>
   simp only[List.nil_append]at h;subst h;exact⟨[],u::a,0,_,rfl,.nil,Al.keep u hb,by omega⟩
  |cons x0 x=>
   injection h with h1 h2
   subst h1;obtain⟨a1,a2,c1,c2,e,k1,k2,k3⟩:=ih x y h2;exact⟨u::a1,a2,c1,c2,by rw[e];rfl,.keep u k1,k2,by omega⟩
 | @swap a b c u v hs hb ih=>
  intro x y h;cases x with
  |nil=>
   simp only[List.nil_append]at h;subst h;exact⟨[],u::a,0,_,rfl,.nil,Al.swap u v hs hb,by omega⟩
  |cons x0 x=>
   injection h with h1 h2
   subst h1;obtain⟨a1,a2,c1,c2,e,k1,k2,k3⟩:=ih x y h2;exact⟨u::a1,a2,_,c2,by rw[e];rfl,.swap u v hs k1,k2,by omega⟩
structure Tls (N:NG) (tl:Nat->Option (List Pt)) (hd:Nat->Nat->Prop):Prop where
 next:∀i p ps,tl i=some (p::ps)->tl (i+1)=some ps
 head:∀n rhs,(n,rhs)∈N.rules->∃i,hd n i/\tl i=some rhs
 rule:∀n i,hd n i->∃rhs,tl i=some rhs/\(n,rhs)∈N.rules
structure fJ (N:NG) (tl:Nat->Option (List Pt)) (hd:Nat->Nat->Prop) (row:List Nat) (Wn Wp:Nat->Nat->Nat->Nat):Prop where
 nil:∀q i,tl q=some []->i<=row.length->Wp q i i=0
 put:∀q t ps i k,tl q=some (.tok t::ps)->i<=k->k<=row.length->Wp q i k<=N.put t+Wp (q+1) i k
 keep:∀q t ps i j k x c,tl q=some (.tok t::ps)->i<=j->j<k->k<=row.length->row[j]?=some x->JY N x t=some c->Wp q i k<=AU N ((row.drop i).take (j - i))+c+Wp (q+1) (j+1) k
 nam:∀q n ps i j k,tl q=some (.nam n::ps)->i<=j->j<=k->k<=row.length->Wp q i k<=Wn n i j+Wp (q+1) j k
 rule:∀n q i j,hd n q->i<=j->j<=row.length->Wn n i j<=Wp q i j
theorem XB {hd:Nat->Nat->Prop} (hT:Tls N tl hd) {Wn Wp:Nat->Nat->Nat->Nat} (hW:fJ N tl hd row Wn Wp) {ps:List Pt} (h:Der N ps b):
  ∀(q:Nat) (p a s:List Nat) (c:Nat),tl q=some ps->row=p++a++s->Al N a b c->∃a1 d,a=a1++d/\Wp q p.length (p.length+a1.length)+AU N d<=c:=by
 induction h with
 |nil=>
  intro q p a s c hq hr ha;refine⟨[],a,rfl,?_⟩;rw[vJ ha rfl];have:=hW.nil q p.length hq (by rw[hr];simp);simp only[List.length_nil,Nat.add_zero];omega
 | @tok t ps b hb ih=>
  intro q p a s c hq hr ha
  rcases uW ha rfl with⟨c',h1,h2⟩ | ⟨d,x,a',c',k,h1,h2,h3,h4⟩
  ·obtain⟨a1,dd,e,h5⟩:=ih (q+1) p a s c' (hT.next _ _ _ hq) hr h1
   refine⟨a1,dd,e,?_⟩;have:=hW.put q t ps p.length (p.length+a1.length) hq (by omega) (by rw[hr,e];simp <;> omega);omega
  ·have hr':row=(p++d++ [x])++a'++s:=by rw[hr,h1];simp
   obtain⟨a1,dd,e,h5⟩:=ih (q+1) (p++d++ [x]) a' s c' (hT.next _ _ _ hq) hr' h2;refine⟨d++x::a1,dd,by rw[h1,e];simp,?_⟩;have hlen:(p++d++ [x]).length=p.length+d.length+1:=by simp;omega
   rw[hlen]at h5;have hget:row[p.length+d.length]?=some x:=by
    rw[hr',aA,aL (by rw[hlen];omega),aR_ (by simp)];simp
   have htake:(row.drop p.length).take (p.length+d.length - p.length)=d:=by
    rw[hr,h1,aA,List.drop_left];rw[show p.length+d.length - p.length=d.length by omega];rw[aA,List.take_left]
   have:=hW.keep q t ps p.length (p.length+d.length) (p.length+(d++x::a1).length) x k hq (by omega) (by simp) (by rw[hr',e];simp <;> omega) hget h3;rw[htake]at this;have e2:p.length+(d++x::a1).length=p.length+d.length+1+a1.length:=by simp;omega
   rw[e2]at this ⊢;omega
 | @nam n rhs ps x y hmem hx hy ih1 ih2=>
  intro q p a s c hq hr ha;obtain⟨b1,b2,c1,c2,e,k1,k2,k3⟩:=oV ha x y rfl;obtain⟨r,hr1,hr2⟩:=hT.head n rhs hmem;obtain⟨a1,d1,e1,h1⟩:=ih1 r p b1 (b2++s) c1 hr2 (by rw[hr,e];simp) k1;have hr':row=(p++a1)++(d1++b2)++s:=by rw[hr,e,e1];simp
  obtain⟨a2,d2,e2,h2⟩:=ih2 (q+1) (p++a1) (d1++b2) s (AU N d1+c2) (hT.next _ _ _ hq) hr' (k2.drops d1);refine⟨a1++a2,d2,by rw[e,e1,aA,e2,aA],?_⟩;have hle:p.length+a1.length+a2.length<=row.length:=by rw[hr',e2];simp <;> omega
  have h3:=hW.nam q n ps p.length (p.length+a1.length) (p.length+a1.length+a2.length) hq (by omega) (by omega) hle;have h4:=hW.rule n r p.length (p.length+a1.length) hr1 (by omega) (by omega);rw[lA]at h2;rw[lA,<-Nat.add_assoc];omega
structure EdP where
 loc:Nat
 kind:Nat
 old:Nat
 new:Nat
 cost:Nat
inductive Run (N:NG) (row:List Nat):Nat->List EdP->Nat->List Nat->Nat->Prop
 |done (i:Nat):Run N row i [] i [] 0
 |keep {i x j:Nat}{E:List EdP}{b:List Nat}{c:Nat}:row[i]?=some x->Run N row (i+1) E j b c->Run N row i E j (x::b) c
 |put {i t j:Nat}{E:List EdP}{b:List Nat}{c:Nat}:t<N.nT->Run N row i E j b c->Run N row i (⟨i,1,N.nT,t,N.put t⟩::E) j (t::b) (N.put t+c)
 |drop {i x j:Nat}{E:List EdP}{b:List Nat}{c:Nat}:row[i]?=some x->Run N row (i+1) E j b c->Run N row i (⟨i,2,x,N.nT,N.drop x⟩::E) j b (N.drop x+c)
 |swap {i x u j:Nat}{E:List EdP}{b:List Nat}{c:Nat}:row[i]?=some x->u<N.nT->x≠u->N.swp x u≠0->Run N row (i+1) E j b c->Run N row i (⟨i,3,x,u,N.swp x u⟩::E) j (u::b) (N.swp x u+c)
theorem Run.le {E:List EdP} (h:Run N row i E j b c):i<=j:=by
 induction h with
 |done i=>omega
 |keep _ _ ih=>omega
 |put _ _ ih=>omega
 |drop _ _ ih=>omega
 |swap _ _ _ _ _ ih=>omega
theorem Run.append {E F:List EdP}{d:List Nat}{e:Nat} (h:Run N row i E j b c) (h':Run N row j F k d e):Run N row i (E++F) k (b++d) (c+e):=by
 induction h with
 |done i=>simpa using h'
 |keep hx _ ih=>exact .keep hx (ih h')
 |put ht _ ih=>rw[Nat.add_assoc];exact .put ht (ih h')
 |drop hx _ ih=>rw[Nat.add_assoc];exact .drop hx (ih h')
 |swap hx hu hn hs _ ih=>rw[Nat.add_assoc];exact .swap hx hu hn hs (ih h')
theorem Run.keeps {N:NG}{row:List Nat}:∀(n i:Nat),i+n<=row.length->Run N row i [] (i+n) ((row.drop i).take n) 0
 |0,i,_=>by simpa using Run.done i
 |n+1,i,h=>by
  have hi:i<row.length:=by omega
  have h1:=Run.keeps (N:=N) (row:=row) n (i+1) (by omega);have e:(row.drop i).take (n+1)=row[i]::(row.drop (i+1)).take n:=by
   rw[List.drop_eq_getElem_cons hi,List.take_succ_cons]
  rw[e,show i+(n+1)=i+1+n by omega];exact .keep (gE hi) h1
def DO (N:NG) (row:List Nat) (i n:Nat):List EdP:=(List.range n).map fun k=>⟨i+k,2,row.getD (i+k) 0,N.nT,N.drop (row.getD (i+k) 0)⟩
theorem Run.drops {N:NG}{row:List Nat}:∀(n i:Nat),i+n<=row.length->Run N row i (DO N row i n) (i+n) [] (AU N ((row.drop i).take n))
 |0,i,_=>by simpa[DO,AU] using Run.done i
 |n+1,i,h=>by
  have hi:i<row.length:=by omega
  have h1:=Run.drops (N:=N) (row:=row) n (i+1) (by omega);have e:(row.drop i).take (n+1)=row[i]::(row.drop (i+1)).take n:=by
   rw[List.drop_eq_getElem_cons hi,List.take_succ_cons]
  have e2:DO N row i (n+1)=⟨i,2,row[i],N.nT,N.drop row[i]⟩::DO N row (i+1) n:=by
   unfold DO;rw[List.range_succ_eq_map,List.map_cons,List.map_map];have hg:row.getD (i+0) 0=row[i]:=by simp[hi]
   rw[hg,Nat.add_zero]
   congr 1
   apply List.map_congr_left;intro k _;simp only[Function.comp,show i+k.succ=i+1+k by omega]
  rw[e,e2,show i+(n+1)=i+1+n by omega];exact .drop (gE hi) h1
theorem Run.al {E:List EdP} (h:Run N row i E j b c) (hj:j<=row.length):Al N ((row.drop i).take (j - i)) b c:=by
 have cut:∀{i x j:Nat},row[i]?=some x->i+1<=j->(row.drop i).take (j - i)=x::(row.drop (i+1)).take (j - (i+1)):=fun {i x j} hx hl=>by
  obtain⟨hi,e⟩:=gS_.1 hx;rw[List.drop_eq_getElem_cons hi,show j - i=(j - (i+1))+1 by omega,List.take_succ_cons,e]
 induction h with
 |done i=>rw[Nat.sub_self,List.take_zero];exact .nil
 |keep hx h ih=>rw[cut hx h.le];exact .keep _ (ih hj)
 |put ht h ih=>exact .put _ (ih hj)
 |drop hx h ih=>rw[cut hx h.le];exact .drop _ (ih hj)
 |swap hx hu hn hs h ih=>rw[cut hx h.le];exact .swap _ _ hs (ih hj)
theorem Run.sum {E:List EdP} (h:Run N row i E j b c):(E.map (·.cost)).sum=c:=by
 induction h with
 |done i=>rfl
 |keep _ _ ih=>exact ih
 |put _ _ ih=>simp[ih]
 |drop _ _ ih=>simp[ih]
 |swap _ _ _ _ _ ih=>simp[ih]
theorem Run.same {E:List EdP} (h:Run N row i E j b c) (hj:j<=row.length):E=[]->b=(row.drop i).take (j - i):=by
 have cut:∀{i x j:Nat},row[i]?=some x->i+1<=j->(row.drop i).take (j - i)=x::(row.drop (i+1)).take (j - (i+1)):=fun {i x j} hx hl=>by
  obtain⟨hi,e⟩:=gS_.1 hx;rw[List.drop_eq_getElem_cons hi,show j - i=(j - (i+1))+1 by omega,List.take_succ_cons,e]
 induction h with
 |done i=>intro _;rw[Nat.sub_self,List.take_zero]
 |keep hx h ih=>intro e;rw[cut hx h.le,<-ih hj e]
 |put _ _ _=>intro e;cases e
 |drop _ _ _=>intro e;cases e
 |swap _ _ _ _ _ _=>intro e;cases e
section
abbrev Wt:=Nat × Nat
def AB:Nat:=1048576
def FZ:Nat:=939524097
def wle (a b:Wt):Prop:=a.1<b.1\/a.1=b.1/\a.2<=b.2
def GE (a b:Wt):Wt:=(a.1+b.1,min (a.2+b.2) FZ)
def named (a:Wt):Wt:=GE a (0,1)
theorem FL (a:Wt):wle a a:=.inr ⟨rfl,lR_ _⟩
theorem GF {a b c:Wt} (h:wle a b) (k:wle b c):wle a c:=by unfold wle at*;omega
theorem a8 {a b:Wt} (h:wle a b) (k:wle b a):a=b:=by
 unfold wle at*;have h1:a.1=b.1:=by omega
 have h2:a.2=b.2:=by omega
 exact Prod.ext h1 h2
theorem K6 {a b:Wt} (h:wle a b):a.1<=b.1:=by unfold wle at h;omega
theorem XI {a b c d:Wt} (h:wle a b) (k:wle c d):wle (GE a c) (GE b d):=by
 unfold wle GE at*;simp only
 by_cases h1:a.1+c.1<b.1+d.1
 ·exact .inl h1
 ·have e1:a.1=b.1:=by omega
  have e2:c.1=d.1:=by omega
  exact .inr ⟨by omega,by omega⟩
def FC (N:NG) (x t:Nat):Nat:=(JY N x t).getD AB
def E4 (N:NG) (row:List Nat) (i j:Nat):Nat:=AU N ((row.drop i).take (j - i))
def FQ (N:NG) (row:List Nat) (t i k:Nat):Wt:=if i=k then(N.put t,1)else(E4 N row i (k - 1)+FC N (row.getD (k - 1) 0) t,1)
def CZ (N:NG) (row:List Nat) (cn:Nat->Nat->Nat->Wt):Pt->Nat->Nat->Wt
 | .tok t,i,k=>FQ N row t i k
 | .nam n,i,k=>cn n i k
def D3 (N:NG) (row:List Nat) (cn ct:Nat->Nat->Nat->Wt) (p:Pt) (q i j k:Nat):Wt:=GE (CZ N row cn p i j) (ct (q+1) j k)
structure EG (N:NG) (tl:Nat->Option (List Pt)) (hd:Nat->Nat->Prop) (row:List Nat) (cn ct:Nat->Nat->Nat->Wt) (i k:Nat):Prop where
 cut:∀q p ps j,tl q=some (p::ps)->i<=j->j<=k->wle (ct q i k) (D3 N row cn ct p q i j k)
 nul:∀q,tl q=some []->ct q i k=if i=k then(0,0)else(AB,0)
 nam:∀n q,hd n q->wle (cn n i k) (named (ct q i k))
 cutA:∀q p ps,tl q=some (p::ps)->ct q i k=(AB,0)\/∃j,i<=j/\j<=k/\ct q i k=D3 N row cn ct p q i j k
 namA:∀n,n<N.nN->cn n i k=(AB,0)\/∃q,hd n q/\cn n i k=named (ct q i k)
theorem PS  (h1:i<k) (h2:k<=row.length):∃x,row[k - 1]?=some x/\row.getD (k - 1) 0=x:=by
 refine⟨row[k - 1],gE (by omega),?_⟩;rw[gD_,gE (by omega)];rfl
theorem MF {hd:Nat->Nat->Prop}{cn ct:Nat->Nat->Nat->Wt} (h:∀i k,i<=k->k<=row.length->EG N tl hd row cn ct i k):
  fJ N tl hd row (fun n i k=>(cn n i k).1) (fun q i k=>(ct q i k).1) where
 nil:=fun q i hq hi=>by
  have:=(h i i (lR_ _) hi).nul q hq;rw[if_pos rfl]at this;simp only[this]
 put:=fun q t ps i k hq hik hk=>by
  have h1:=K6 ((h i k hik hk).cut q _ ps i hq (lR_ _) hik);simp only[D3,GE,CZ,FQ,if_pos]at h1;exact h1
 keep:=fun q t ps i j k x c hq hij hjk hk hx hc=>by
  have h1:=K6 ((h i k (by omega) hk).cut q _ ps (j+1) hq (by omega) (by omega));obtain⟨y,hy,e⟩:=PS (i:=j) (k:=j+1) (by omega) (by omega:j+1<=row.length);rw[show j+1 - 1=j by omega]at hy e;rw[hx]at hy;obtain rfl:x=y:=by injection hy
  simp only[D3,GE,CZ,FQ]at h1;rw[if_neg (by omega),show j+1 - 1=j by omega,e]at h1;simp only[E4,FC,hc,Option.getD_some]at h1;exact h1
 nam:=fun q n ps i j k hq hij hjk hk=>by
  exact K6 ((h i k (by omega) hk).cut q _ ps j hq hij hjk)
 rule:=fun n q i j hd hij hj=>by
  have:=K6 ((h i j hij hj).nam n q hd);simpa[named,GE] using this
def Gnf (N:NG):Prop:=∀r∈N.rules,∃t ps,r.2=Pt.tok t::ps
section
variable {N:NG}{tl:Nat->Option (List Pt)}{hd:Nat->Nat->Prop}{row:List Nat}{cn ct:Nat->Nat->Nat->Wt}
theorem qR (hN:N.Ok) (hG:Gnf N) (hT:Tls N tl hd)  (h:EG N tl hd row cn ct i i) {n:Nat} (hn:n<N.nN):1<=(cn n i i).1:=by
 rcases h.namA n hn with e | ⟨q,hq,e⟩
 ·rw[e];unfold AB;omega
 ·rw[e]
  obtain⟨rhs,h1,h2⟩:=hT.rule n q hq;obtain⟨t,ps,h3⟩:=hG _ h2;simp only at h3;subst h3;have ht:=hN.put1 t (hN.pt _ h2 t (List.mem_cons_self ..))
  rcases h.cutA q _ _ h1 with e2 | ⟨j,h4,h5,e2⟩
  ·rw[e2];simp only[named,GE];unfold AB;omega
  ·obtain rfl:j=i:=by omega
   rw[e2];simp only[named,GE,D3,CZ,FQ,if_pos];omega
def LR (tl:Nat->Option (List Pt)) (q i k c:Nat):Nat:=2*((k - i)*(2*AB)+c)+match tl q with
 |some (.nam _::_)=>1
 |_=>0
theorem jG {q q' i' k' c':Nat} (hc':c'<2*AB) (h:k' - i'<k - i\/k' - i'=k - i/\c'<c):LR tl q' i' k' c'<LR tl q i k c:=by
 unfold LR;have h1:(match tl q' with |some (.nam _::_)=>1 |_=>0:Nat)<=1:=by split <;> omega
 have h2:(k' - i')*(2*AB)+c'< (k - i)*(2*AB)+c:=by
  rcases h with h | ⟨h,h'⟩
  ·have h3:(k' - i'+1)*(2*AB)<=(k - i)*(2*AB):=Nat.mul_le_mul_right _ h
   rw[Nat.add_mul,Nat.one_mul]at h3;omega
  ·rw[h];omega
 omega
end
end
section
section
variable {N:NG}{tl:Nat->Option (List Pt)}{hd:Nat->Nat->Prop}{row:List Nat}{cn ct:Nat->Nat->Nat->Wt}
theorem X3 (hN:N.Ok) {t:Nat} (ht:t<N.nT) (h:i=j):1<=(FQ N row t i j).1:=by
 unfold FQ;rw[if_pos h];exact hN.put1 t ht
theorem TP (hN:N.Ok) (hG:Gnf N) (hT:Tls N tl hd) (hW:∀i k,i<=k->k<=row.length->EG N tl hd row cn ct i k)
  {q i k j:Nat}{p:Pt}{ps:List Pt} (hq:tl q=some (p::ps)) (hp:∀t,p=.tok t->t<N.nT) (hp':∀n,p=.nam n->n<N.nN) (hlt:(ct q i k).1<AB) (hij:i<=j) (hjk:j<=k) (hk:k<=row.length) (e:ct q i k=D3 N row cn ct p q i j k):
  (CZ N row cn p i j).1+(ct (q+1) j k).1=(ct q i k).1/\LR tl (q+1) j k (ct (q+1) j k).1<LR tl q i k (ct q i k).1/\
   ∀n,p=.nam n->∀r,hd n r->cn n i j=named (ct r i j)->(ct r i j).1=(cn n i j).1/\LR tl r i j (ct r i j).1<LR tl q i k (ct q i k).1:=by
 have h1:(CZ N row cn p i j).1+(ct (q+1) j k).1=(ct q i k).1:=by rw[e];rfl
 refine⟨h1,?_,fun n hn r hr hc=>?_⟩
 ·refine jG (by unfold AB at*;omega) ?_
  by_cases h2:i=j
  ·refine .inr ⟨by omega,?_⟩
   have:1<=(CZ N row cn p i j).1:=by
    cases p with
    |tok t=>exact X3 hN (hp t rfl) h2
    |nam n=>subst h2;exact qR hN hG hT (hW i i (lR_ _) (by omega)) (hp' n rfl)
   omega
  ·exact .inl (by omega)
 ·subst hn
  obtain⟨rhs,h3,h4⟩:=hT.rule n r hr;obtain⟨t,ps',h5⟩:=hG _ h4;simp only at h5;subst h5;have h6:(ct r i j).1=(cn n i j).1:=by rw[hc];simp[named,GE]
  refine⟨h6,?_⟩;have h7:(CZ N row cn (.nam n) i j).1=(cn n i j).1:=rfl;unfold LR;rw[hq,h3];simp only;have h8:(ct r i j).1<=(ct q i k).1:=by omega
  have h9:(j - i)*(2*AB)<=(k - i)*(2*AB):=Nat.mul_le_mul_right _ (by omega);omega
theorem Mz24 {P:Prop} (h:P:=by
  have h1:=(hW i k hik hk).nul q hq
  by_cases h2:i=k
  ·subst h2;rw[Nat.sub_self,List.take_zero];exact .nil
  ·rw[if_neg h2]at h1;rw[h1]at h0;unfold AB at h0;omega):P:=h
theorem qS (hN:N.Ok) (hG:Gnf N) (hT:Tls N tl hd) (hpt:∀q l,tl q=some l->(∀t,Pt.tok t∈l->t<N.nT)/\∀n,Pt.nam n∈l->n<N.nN) (hr:∀x∈row,x<N.nT) (hW:∀i k,i<=k->k<=row.length->EG N tl hd row cn ct i k):
  ∀(m q i k:Nat) (l:List Pt),LR tl q i k (ct q i k).1<=m->tl q=some l->i<=k->k<=row.length->(ct q i k).1=0->Der N l ((row.drop i).take (k - i)):=by
 intro m
 induction m with
 |zero=>
  intro q i k l hm hq hik hk h0;cases l with
  |nil=>
   exact Mz24
  |cons p ps=>
   rcases(hW i k hik hk).cutA q p ps hq with e | ⟨j,h1,h2,e⟩
   ·rw[e]at h0;unfold AB at h0;omega
   ·have:=(TP hN hG hT hW hq (fun t e=>(hpt q _ hq).1 t y36Z) (fun n e=>(hpt q _ hq).2 n y36Z) (by rw[h0];unfold AB;omega) h1 h2 hk e).2.1
    omega
 |succ m ih=>
  intro q i k l hm hq hik hk h0;cases l with
  |nil=>
   exact Mz24
  |cons p ps=>
   rcases(hW i k hik hk).cutA q p ps hq with e | ⟨j,h1,h2,e⟩
   ·rw[e]at h0;unfold AB at h0;omega
   ·obtain⟨s1,s2,s3⟩:=TP hN hG hT hW hq (fun t e=>(hpt q _ hq).1 t y36Z) (fun n e=>(hpt q _ hq).2 n y36Z) (by rw[h0];unfold AB;omega) h1 h2 hk e
    have hrest:=ih (q+1) j k ps (by omega) (hT.next _ _ _ hq) h2 hk (by omega);have hcat:(row.drop i).take (k - i)=(row.drop i).take (j - i)++(row.drop j).take (k - j):=by
     have h3:k - i=(j - i)+(k - j):=by omega
     rw[h3,List.take_add,List.drop_drop,show i+(j - i)=j by omega]
    cases p with
    |tok t=>
     have ht:t<N.nT:=(hpt q _ hq).1 t (List.mem_cons_self ..);have h4:(FQ N row t i j).1=0:=by
      have:(CZ N row cn (.tok t) i j).1=(FQ N row t i j).1:=rfl;omega
     have hij:i<j:=by
      rcases Nat.lt_or_ge i j with h |h
      ·exact h
      ·have:=X3 (row:=row) hN ht (show i=j by omega);omega
     obtain⟨x,hx,hx'⟩:=PS hij (by omega:j<=row.length);unfold FQ at h4;rw[if_neg (by omega),hx']at h4;simp only at h4;have h5:E4 N row i (j - 1)=0:=by omega
     have h6:FC N x t=0:=by omega
     have h7:x=t:=by
      unfold FC JY at h6
      by_cases h8:x=t
      ·exact h8
      ·rw[if_neg h8]at h6
       by_cases h9:N.swp x t=0
       ·rw[if_pos h9]at h6;simp[AB]at h6
       ·rw[if_neg h9]at h6;simp at h6;omega
     subst h7;have h8:j=i+1:=by
      rcases Nat.lt_or_ge (i+1) j with h |h
      ·unfold E4 at h5
       rw[List.drop_eq_getElem_cons (by omega:i<row.length),show j - 1 - i=(j - 2 - i)+1 by omega,List.take_succ_cons]at h5;simp only[AU]at h5;have:=hN.drop1 _ (hr _ (List.getElem_mem (by omega:i<row.length)));omega
      ·omega
     subst h8;rw[show i+1 - 1=i by omega]at hx;have h9:(row.drop i).take (i+1 - i)=[x]:=by
      obtain⟨hi,e⟩:=gS_.1 hx;rw[show i+1 - i=1 by omega,List.drop_eq_getElem_cons hi,e];simp
     rw[hcat,h9];exact .tok hrest
    |nam n=>
     have hn:n<N.nN:=(hpt q _ hq).2 n (List.mem_cons_self ..);have h7:(CZ N row cn (.nam n) i j).1=(cn n i j).1:=rfl
     rcases(hW i j h1 (by omega)).namA n hn with e2 | ⟨r,hr2,e2⟩
     ·rw[e2]at h7;simp only at h7;unfold AB at h7;omega
     ·obtain⟨h8,h9⟩:=s3 n rfl r hr2 e2
      obtain⟨rhs,h10,h11⟩:=hT.rule n r hr2;have:=ih r i j rhs (by omega) h10 h1 (by omega) (by omega);rw[hcat];exact .nam h11 this hrest
end
end
section
theorem WJ {n:Nat} (h:Der N [.nam n] b):∃rhs,(n,rhs)∈N.rules/\Der N rhs b:=by
 cases h with
 |nam hm ha hb=>
  cases hb;rw[List.append_nil];exact⟨_,hm,ha⟩
theorem XA {d:List Nat}:E4 N (a++d) a.length (a++d).length=AU N d:=by
 unfold E4;rw[List.drop_left,lA,show a.length+d.length - a.length=d.length by omega,List.take_length]
section
variable {N:NG}{tl:Nat->Option (List Pt)}{hd:Nat->Nat->Prop}{row:List Nat}{cn ct:Nat->Nat->Nat->Wt}
theorem dP (hT:Tls N tl hd) (hW:∀i k,i<=k->k<=row.length->EG N tl hd row cn ct i k) {e:Nat}
  (he:∀a,a<=row.length->(cn 0 0 e).1+E4 N row e row.length<=(cn 0 0 a).1+E4 N row a row.length) {b:List Nat}{c:Nat} (hb:Der N [.nam 0] b) (ha:Al N row b c):
  (cn 0 0 e).1+E4 N row e row.length<=c:=by
 obtain⟨rhs,h1,h2⟩:=WJ hb;obtain⟨q,h3,h4⟩:=hT.head 0 rhs h1;obtain⟨a1,d,h5,h6⟩:=XB hT (MF hW) h2 q [] row [] c h4 (by simp) ha;have h7:=he a1.length (by rw[h5];simp);have h8:=(MF hW).rule 0 q 0 a1.length h3 (by omega) (by rw[h5];simp);simp only[List.length_nil,Nat.zero_add]at h6;have h9:E4 N row a1.length row.length=AU N d:=by
  have:=XA (N:=N) (a:=a1) (d:=d);rw[<-h5]at this;exact this
 have h8:(cn 0 0 a1.length).1<=(ct q 0 a1.length).1:=h8;omega
def QZ (N:NG):List Nat->Nat
 | []=>0
 |t::l=>N.put t+QZ N l
theorem eY (N:NG):∀b:List Nat,Al N [] b (QZ N b)
 | []=>.nil
 |t::b=>.put t (eY N b)
theorem tJ (N:NG) (row b:List Nat):Al N row b (AU N row+QZ N b):=by
 have:=(eY N b).drops row;rw[List.append_nil]at this;exact this
theorem Q4 {N:NG} (hN:N.Ok):∀{row:List Nat},(∀x∈row,x<N.nT)->AU N row<=99*row.length
 | [],_=>Nat.zero_le _
 |t::l,h=>by
  have h1:=hN.drop2 t (h t (List.mem_cons_self ..));have h2:=Q4 hN (row:=l) (fun x hx=>h x (List.mem_cons_of_mem _ hx));simp only[AU,lC];omega
end
end
def Led (rul:Nat->Nat->Option (List Pt)):Prop:=∀n k rhs,rul n k=some rhs->∃rest,rhs=Pt.tok k::rest
def PD (N:NG) (rul:Nat->Nat->Option (List Pt)):Prop:=∀n rhs,(n,rhs)∈N.rules↔∃k,rul n k=some rhs
theorem mH  (h:PD N rul) (hl:Led rul):Gnf N:=fun r hr=>by
 obtain⟨k,hk⟩:=(h r.1 r.2).1 hr;obtain⟨rest,e⟩:=hl _ _ _ hk;exact⟨k,rest,e⟩
def BB (rul:Nat->Nat->Option (List Pt)):List Pt->Nat->Option (List Pt)
 | [],_=>none
 | .tok u::s,t=>if u=t then some s else none
 | .nam n::s,t=>(rul n t).map fun rhs=>rhs.tail++s
def BF (rul:Nat->Nat->Option (List Pt)):List Pt->List Nat->Option (List Pt)
 |l,[]=>some l
 |l,t::b=>(BB rul l t).bind fun s=>BF rul s b
theorem FR (rul:Nat->Nat->Option (List Pt)):∀(l:List Pt) (a b:List Nat),BF rul l (a++b)=(BF rul l a).bind fun s=>BF rul s b
 |l,[],b=>rfl
 |l,t::a,b=>by
  show(BB rul l t).bind (fun s=>BF rul s (a++b))=((BB rul l t).bind fun s=>BF rul s a).bind fun s=>BF rul s b
  cases BB rul l t with
  |none=>rfl
  |some s=>exact FR rul s a b
theorem S5  (hr:PD N rul) (hl:Led rul)  (h:Der N l b):∀s,BF rul (l++s) b=some s:=by
 induction h with
 |nil=>intro s;rfl
 | @tok t ps r _ ih=>
  intro s;show(BB rul (.tok t::(ps++s)) t).bind _=_;simp only[BB,if_pos];exact ih s
 | @nam n rhs ps a b hm ha hb ih1 ih2=>
  intro s;obtain⟨k,hk⟩:=(hr n rhs).1 hm;obtain⟨rest,e⟩:=hl _ _ _ hk;subst e;cases ha with
  | @tok _ _ r hra=>
   have h1:=ih1 (ps++s);have h2:BF rul (rest++(ps++s)) r=some (ps++s):=by
    have h3:BF rul (.tok k::rest++(ps++s)) (k::r)=BF rul (rest++(ps++s)) r:=by
     show(BB rul (.tok k::(rest++(ps++s))) k).bind _=_;simp only[BB,if_pos];rfl
    rw[<-h3];exact h1
   show(BB rul (.nam n::(ps++s)) k).bind (fun s=>BF rul s (r++b))=some s;simp only[BB,hk,Option.map_some,List.tail_cons,Option.bind_some];rw[FR,h2];exact ih2 s
theorem kG:∀{l:List Pt}{b:List Nat},Der N l b->∀(x y:List Pt),l=x++y->∃b1 b2,b=b1++b2/\Der N x b1/\Der N y b2:=by
 intro l b h
 induction h with
 |nil=>
  intro x y e;obtain⟨rfl,rfl⟩:=List.append_eq_nil_iff.1 e.symm;exact⟨[],[],rfl,.nil,.nil⟩
 | @tok t ps r h0 ih=>
  intro x y e;cases x with
  |nil=>
   simp only[List.nil_append]at e;subst e;exact⟨[],t::r,rfl,.nil,.tok h0⟩
  |cons p x=>
   injection e with e1 e2
   subst e1;obtain⟨b1,b2,e3,k1,k2⟩:=ih x y e2;exact⟨t::b1,b2,by rw[e3];rfl,.tok k1,k2⟩
 | @nam n rhs ps a b hm ha hb ih1 ih2=>
  intro x y e;cases x with
  |nil=>
   simp only[List.nil_append]at e;subst e;exact⟨[],a++b,rfl,.nil,.nam hm ha hb⟩
  |cons p x=>
   injection e with e1 e2
   subst e1;obtain⟨b1,b2,e3,k1,k2⟩:=ih2 x y e2;exact⟨a++b1,b2,by rw[e3,aA],.nam hm ha k1,k2⟩
theorem VX {N:NG}{rul:Nat->Nat->Option (List Pt)} (hr:PD N rul) (hl:Led rul):∀(b:List Nat) (l:List Pt),BF rul l b=some []->Der N l b
 | [],l,h=>by
  have:l=[]:=by injection h
  subst this;exact .nil
 |t::b,l,h=>by
  cases l with
  |nil=>cases h
  |cons p s=>
   cases p with
   |tok u=>
    have h:(BB rul (.tok u::s) t).bind (fun s=>BF rul s b)=some []:=h;simp only[BB]at h
    by_cases e:u=t
    ·subst e
     rw[if_pos rfl]at h;exact .tok (VX hr hl b s h)
    ·rw[if_neg e]at h;cases h
   |nam n=>
    have h:(BB rul (.nam n::s) t).bind (fun s=>BF rul s b)=some []:=h;simp only[BB]at h;cases hk:rul n t with
    |none=>rw[hk]at h;cases h
    |some rhs=>
     rw[hk]at h;obtain⟨rest,e⟩:=hl _ _ _ hk;subst e;have h2:BF rul (rest++s) b=some []:=h;obtain⟨b1,b2,e,k1,k2⟩:=kG (VX hr hl b _ h2) rest s rfl;subst e;exact .nam (a:=t::b1) ((hr _ _).2 ⟨_,hk⟩) (.tok k1) k2
structure IM where
 part:Pt
 rule:Int
 size:Nat
inductive TrL (rul:Nat->Nat->Option (List Pt)):List Pt->List Nat->List IM->Prop
 |nil:TrL rul [] [] []
 |tok {t:Nat}{ps:List Pt}{r:List Nat}{T:List IM}:TrL rul ps r T->TrL rul (.tok t::ps) (t::r) (⟨.tok t,-1,1⟩::T)
 |nam {n k:Nat}{rhs ps:List Pt}{a b:List Nat}{S T:List IM}:rul n k=some rhs->TrL rul rhs a S->TrL rul ps b T->TrL rul (.nam n::ps) (a++b) (⟨.nam n,k,S.length+1⟩::S++T)
theorem TrL.der  (hr:PD N rul) {T:List IM} (h:TrL rul l b T):Der N l b:=by
 induction h with
 |nil=>exact .nil
 |tok _ ih=>exact .tok ih
 |nam hk _ _ ih1 ih2=>exact .nam ((hr _ _).2 ⟨_,hk⟩) ih1 ih2
theorem pE  (hr:PD N rul)  (h:Der N l b):∃T,TrL rul l b T:=by
 induction h with
 |nil=>exact⟨_,.nil⟩
 |tok _ ih=>obtain⟨T,h⟩:=ih;exact⟨_,.tok h⟩
 |nam hm _ _ ih1 ih2=>
  obtain⟨S,h1⟩:=ih1;obtain⟨T,h2⟩:=ih2;obtain⟨k,hk⟩:=(hr _ _).1 hm;exact⟨_,.nam hk h1 h2⟩
section
section
variable {N:NG}
theorem Run.ahead {E:List EdP} (h:Run N row i E j b c):∀(k:Nat) e,E[k]?=some e->
  i<=e.loc/\e.loc<=j/\∃b1 c1 b2 c2,b=b1++b2/\Run N row i (E.take k) e.loc b1 c1/\Run N row e.loc (E.drop k) j b2 c2/\c1+c2=c/\(e.kind≠2->b2.head?=some e.new):=by
 induction h with
 |done i=>intro k e h;simp at h
 | @keep i x j E b c hx h0 ih=>
  intro k e hk;obtain⟨h1,h2,b1,c1,b2,c2,h3,h4,h5,h6,h7⟩:=ih k e hk;exact⟨by omega,h2,x::b1,c1,b2,c2,by rw[h3];rfl,.keep hx h4,h5,h6,h7⟩
 | @put i t j E b c ht h0 ih=>
  intro k e hk;cases k with
  |zero=>
   injection hk with hk
   subst hk;exact⟨lR_ _,h0.le,[],0,_,_,rfl,.done _,.put ht h0,by omega,fun _=>rfl⟩
  |succ k=>
   obtain⟨h1,h2,b1,c1,b2,c2,h3,h4,h5,h6,h7⟩:=ih k e hk;exact⟨h1,h2,t::b1,_,b2,c2,by rw[h3];rfl,.put ht h4,h5,by omega,h7⟩
 | @drop i x j E b c hx h0 ih=>
  intro k e hk;cases k with
  |zero=>
   injection hk with hk
   subst hk;exact⟨lR_ _,by have:=h0.le;simp only;omega,[],0,_,_,rfl,.done _,.drop hx h0,by omega,fun h=>absurd rfl h⟩
  |succ k=>
   obtain⟨h1,h2,b1,c1,b2,c2,h3,h4,h5,h6,h7⟩:=ih k e hk;exact⟨by omega,h2,b1,_,b2,c2,h3,.drop hx h4,h5,by omega,h7⟩
 | @swap i x u j E b c hx hu hn hs h0 ih=>
  intro k e hk;cases k with
  |zero=>
   injection hk with hk
   subst hk;exact⟨lR_ _,by have:=h0.le;simp only;omega,[],0,_,_,rfl,.done _,.swap hx hu hn hs h0,by omega,fun _=>rfl⟩
  |succ k=>
   obtain⟨h1,h2,b1,c1,b2,c2,h3,h4,h5,h6,h7⟩:=ih k e hk;exact⟨by omega,h2,u::b1,_,b2,c2,by rw[h3];rfl,.swap hx hu hn hs h4,h5,by omega,h7⟩
end
end
theorem ZL (w:World) (n₀ fb kb:Nat) (N:NG) (tws:List ByteArray) (pg:List Nm) (adT:Option Addr) (capT gN capN:Nat) (k:List Fa) (h:FcM w n₀ fb kb N tws pg adT capT gN capN k) (hfh:∀n,AL k n<2 ^21) (hfo:∀n,B2 k n<2 ^21)
  (n r:Nat) (nm:Nm) (ps:List Pt) (hn:pg[n]?=some nm) (hnN:n<N.nN) (hr:nm.2[r]?=some ps) (hps:AY N ps) (hlen:ps.length<=8):
  Calls Tryz.prog 41 #[ac fb,ab n,ab r] w fun e w'=>e=.returned (.int .u32 (DU k ps (B2 k n)))/\Below w.heap.size w w':=by
 have hlw:=h.ln;have hlf:=h.lf;have hkw:=h.kn.lt;have hn20:=h.gr.leN;have f1:=h.f1;have f2:=h.f2;have hgN:=h.gr.hgN;obtain⟨_,v,c1,gR,capR,rfl,hgR,hcR,hrl⟩:=h.gr.names n nm hn;obtain⟨p,c2,hp⟩:=hrl r ps hr;obtain⟨a,ha⟩:∃a,k[n]?=some a:=⟨_,gE (by rw[h.kn.1];exact hnN)⟩;obtain⟨_,_,_,c3⟩:=h.kn.cells ha;have hfo':=hfo n;rw[VM ha]at hfo' ⊢;have CA:Hid (Calls Tryz.prog 73 #[ac fb,p,.int .u32 a.follow] w.drew fun e w'=>e=.returned (.int .u32 (DU k ps a.follow))/\Below w.drew.heap.size w.drew w'):=hid (
  YI w.drew n₀ fb kb N tws pg adT capT gN capN k (h.below (bdr (Below.refl _ _))) hfh p ps (hp.below ((bdr (Below.refl _ _)).mono hlw)) hps hlen a.follow hfo')
 have hrL:=(gS_.1 hr).1;obtain⟨nL,hnL⟩:=qF (nm.2.length);rw[<-hnL]at c1 hcR hrL;obtain⟨nN,hn1⟩:=qF (N.nN);rw[<-hn1]at f1 f2 hn20 hnN;clear h hfh hfo hrl hp hps hlen hfo' ha hn hr hnL hn1
 go_enter Tryz.func41,Tryz.ntmps41
 go_wp2;refine wp_region_held_drew (S:=fun w'=>(w'.cell? (af fb 1)=some (ae gN nN capN)/\w'.cell? (af fb 2)=some (ae kb nN nN)/\w'.cell? (af gN (n*2+1))=some (ae gR nL capR)/\w'.cell? (af gR r)=some p/\w'.cell? (af kb (n*4+3))=some (.int .u32 a.follow))/\Below w.heap.size w w') y1Z ⟨⟨f1,f2,c1,c2,c3⟩,bdr (Below.refl _ _)⟩ (fun hH=>?_);have k1:fb<w.drew.heap.size:=hlf;have k2:gN<w.drew.heap.size:=by show gN<w.heap.size;omega
 have k3:gR<w.drew.heap.size:=by show gR<w.heap.size;omega
 have k4:kb<w.drew.heap.size:=hkw;refine tB 0 hH ?_;refine tB 1 hH ?_;refine tB 2 hH ?_;refine tB 3 hH ?_;refine tB 4 hH ?_;refine tB 5 hH ?_;refine tB 6 hH ?_;refine tB 7 hH ?_;refine tB 8 hH ?_;refine tB 9 hH ?_;refine tB 10 hH ?_;refine tB 11 hH ?_;refine tB 12 hH ?_;refine tB 13 hH ?_;refine tB 14 hH ?_;refine tB 15 hH ?_;refine tB 16 hH ?_;refine tB 17 hH ?_;refine tB 18 hH ?_;refine tB 19 hH ?_;refine tB 20 hH ?_;refine tL ?_;refine tS 21 fun K hK=>?_
 refine tM ?_
 go_simp;refine CA.out.mono ?_;rintro e w5 ⟨rfl,hb5⟩;try dsimp only
 refine hK.out _ _ ?_ fun hH=>?_
 ·exact⟨⟨(hb5.cell (by exact k1)).trans hH.1.1,(hb5.cell (by exact k1)).trans hH.1.2.1,(hb5.cell (by exact k2)).trans hH.1.2.2.1,(hb5.cell (by exact k3)).trans hH.1.2.2.2.1,(hb5.cell (by exact k4)).trans hH.1.2.2.2.2⟩,hH.2.trans (hb5.mono hH.2.size)⟩
 clear hK K;refine tB 22 hH ?_;refine tL ?_;refine wpAnyH_done y1Z ?_ _;have HBE:=hid hH.2;clear hH hb5;go_wp2;go_ret;exact⟨rfl,HBE.out⟩
theorem eD (w:World) (n₀ fb kb:Nat) (N:NG) (tws:List ByteArray) (pg:List Nm) (adT:Option Addr) (capT gN capN:Nat) (k:List Fa) (h:FcM w n₀ fb kb N tws pg adT capT gN capN k) (hfh:∀n,AL k n<2 ^21) (v:Value) (ps:List Pt) (hv:C0 w n₀ v ps) (hps:AY N ps) (hlen:ps.length<=8):
  Calls Tryz.prog 45 #[ac fb,v] w fun e w'=>e=.returned (.bool (FA (emP k) ps))/\Below w.heap.size w w':=by
 have CB:=PY w n₀ fb kb N tws pg adT capT gN capN k h hfh v ps hv hps hlen;rw[(JC k ps 0).1]at CB;have HCB:=hid CB;obtain⟨ad,cap,rfl,_,_⟩:=hv;clear h hfh hps hlen CB
 go_enter Tryz.func45,Tryz.ntmps45
 go_wp2_with (go_at_call 70;refine HCB.out.mono ?_;rintro e w2 ⟨rfl,hb2⟩;have HB:=hid hb2;clear hb2)
 go_ret;exact⟨rfl,HB.out⟩
def DJ (a b:Nat):Nat:=min (a+b) 939524097
theorem Mz25 {P:Prop} (h:P:=by
  go_wp2;go_ret;exact⟨by first |rfl | (rw[e];rfl) | (refine congrArg (fun z=>Ending.returned (ab z)) ?_;first |omega | (unfold DJ;omega)),rfl⟩):P:=h
theorem N7 (a b:Nat) (ha:a<=939524097) (hb:b<=939524097) (w:World):Calls Tryz.prog 77 #[ab a,ab b] w fun e w'=>e=.returned (ab (DJ a b))/\w=w':=by
 go_enter Tryz.func77,Tryz.ntmps77
 rcases Nat.lt_or_ge 939524097 (a+b)with h0 |h0
 ·have h1:¬((a:Int)+(b:Int)<=939524097):=by omega
  have e:DJ a b=939524097:=by unfold DJ;omega
  exact Mz25
 ·have h1:(a:Int)+(b:Int)<=939524097:=by omega
  have e:((DJ a b:Nat):Int)=(a:Int)+(b:Int):=by unfold DJ;omega
  exact Mz25
def EmC (w:World) (tb:Nat):Prop:=∀m,m<20->∃x:Nat,x<=939524097/\w.cell? (af tb (423+m))=some (ab x)
theorem EmC.below {w w':World}{tb B:Nat} (h:EmC w tb) (hb:Below B w w') (ht:tb<B):EmC w' tb:=fun m hm=>by
 obtain⟨x,h1,h2⟩:=h m hm;exact⟨x,h1,(hb.cell (by exact ht)).trans h2⟩
theorem WH (w:World) (n₀ tb:Nat) (N:NG) (hT20:N.nT<=20) (hN20:N.nN<=20) (hn0:n₀<=w.heap.size) (htb:tb<w.heap.size) (hE:EmC w tb) (v:Value) (ps:List Pt) (hv:C0 w n₀ v ps) (hps:AY N ps) (hlen:ps.length<=8):
  Calls Tryz.prog 46 #[ac tb,v] w fun e w'=>(∃x:Nat,x<=939524097/\e=.returned (ab x))/\Below w.heap.size w w':=by
 obtain⟨ad,cap,rfl,hcap,hcs⟩:=hv;obtain⟨L,hL⟩:=qF (ps.length);rw[<-hL]at hcap hcs hlen ⊢;have HL:Hid (L=ps.length):=hid hL;have HC:=hid hcs;have HP:Hid (AY N ps):=hid hps;have HE:Hid (EmC w tb):=hid hE;clear hL hcs hps hE
 go_enter Tryz.func46,Tryz.ntmps46
 go_wp2
 go_loopw [5,10] (fun s i wr=>∃j f:Nat,j<=L/\i=ab j/\s=ab f/\f<=939524097/\Hid (Below w.heap.size w wr)) (fun _ i _=>L - (intOf i).toNat)
 case atStart=>exact⟨0,1,Nat.zero_le _,rfl,rfl,by omega,Below.refl _ _⟩
 case round=>
  obtain⟨j,f,hj,rfl,rfl,hf,HB⟩:=hrel
  by_cases hlt:j<L
  ·obtain⟨p,hp⟩:∃p,ps[j]?=some p:=⟨_,gE y32Z⟩
   obtain⟨g,off,rfl,hg,hcl⟩:=HC.out (by omega);have hszw:=HB.out.size;have hgw:g<wr.heap.size:=by omega
   have p0:=(HB.out.cell (p:=(af g (off+j*2))) y6Z).trans (hcl j p hp).1;have p1:=(HB.out.cell (p:=(af g (off+j*2+1))) y6Z).trans (hcl j p hp).2;have hpn:AP p<20:=by
    have:=HP.out.at hp;cases p with
    |tok t=>have h1:t<N.nT:=this;show t<20;omega
    |nam n=>have h1:n<N.nN:=this;show n<20;omega
   obtain⟨x,hx,hxc⟩:=HE.out.below HB.out htb (AP p) hpn;obtain⟨pi,hpi⟩:=qE (AQ p);obtain⟨pn,hpn'⟩:=qE (AP p);rw[hpi]at p0;rw[hpn']at p1 hpn hxc;have htw:tb<wr.heap.size:=by omega
   have hpn3:(pn:Int)<20:=by omega
   clear hcl hp hpi hpn';go_wp2;obtain⟨W2,hW2⟩:=qE (wr.alloc (.cells #[.bool pi,ab pn] 105));have d1:W2.cell? (af wr.heap.size 1)=some (ab pn):=by rw[<-hW2];exact BG wr _ _ 1
   have d2:W2.cell? (af tb (423+pn))=some (ab x):=by rw[<-hW2];exact A2 _ hxc
   have hBW2:Below w.heap.size w W2:=by rw[<-hW2];exact bal HB.out
   have q1:wr.heap.size<W2.drew.heap.size:=World.block_lt_of_cell? _ _ d1;have q2:tb<W2.drew.heap.size:=World.block_lt_of_cell? _ _ d2;rw[hW2];clear hW2 p0 p1 hxc;refine wp_region_held_drew (S:=fun w'=>(w'.cell? (af wr.heap.size 1)=some (ab pn)/\w'.cell? (af tb (423+pn))=some (ab x))/\Below w.heap.size w w') y1Z ⟨⟨d1,d2⟩,bdr hBW2⟩ (fun hH=>?_);refine tB 0 hH ?_;refine tB 1 hH ?_;refine tB 2 hH ?_;refine tB 3 hH ?_;refine tB 4 hH ?_;refine tB 5 hH ?_;refine tB 6 hH ?_;refine tB 7 hH ?_;refine tL ?_;refine tS 8 fun K hK=>?_
   refine tM ?_
   go_simp;refine(N7 f x hf hx _).mono ?_;rintro e w5 ⟨rfl,rfl⟩;try dsimp only
   refine hK.out _ _ ?_ fun hH=>?_
   ·exact hH
   clear hK K;refine tB 9 hH ?_;refine tL ?_;refine wpAnyH_done y1Z ?_ _;have HBE:=hid hH.2;have haN:DJ f x<=939524097:=by unfold DJ;omega
   obtain⟨y,hy⟩:=qE (DJ f x);rw[hy]at haN ⊢;clear hH d1 d2 hy;go_wp2
   go_roundw
   case rel=>exact⟨j+1,y,by omega,by go_num,rfl,haN,HBE⟩
   case measure=>simp[intOf];omega
  ·go_wp2
   go_ret;exact⟨⟨f,hf,rfl⟩,HB.out⟩
end Go.Proofs.YtjjggdcnpndgjabGreatDoor
