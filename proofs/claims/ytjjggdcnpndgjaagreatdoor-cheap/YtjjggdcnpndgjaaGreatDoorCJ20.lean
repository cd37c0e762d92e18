import Derived.Test.YtjjggdcnpndgjaaGreatDoorCJ13
set_option linter.unusedSimpArgs false
set_option maxHeartbeats 2000000
set_option maxRecDepth 100000
namespace Go.Proofs.YtjjggdcnpndgjaaGreatDoor
abbrev uu:=@List.take_zero
abbrev zk:=@List.drop_left
open Go.RowKit
variable {N:NG}{a b row:List Nat}{c i j k:Nat}{l:List Pt}{zH:Nat->Nat->Option (List Pt)}{tl:Nat->Option (List Pt)}
inductive Bb (N:NG):List Pt->List Nat->Prop
 |nil:Bb N [] []
 |tok {t:Nat}{ps:List Pt}{r:List Nat}:Bb N ps r->Bb N (.tok t::ps) (t::r)
 |zi {n:Nat}{rhs ps:List Pt}{a b:List Nat}:(n,rhs)∈N.rules->Bb N rhs a->Bb N ps b->Bb N (.zi n::ps) (a++b)
inductive Al (N:NG):List Nat->List Nat->Nat->Prop
 |nil:Al N [] [] 0
 |put {a b:List Nat}{c:Nat} (t:Nat):Al N a b c->Al N a (t::b) (N.put t+c)
 |drop {a b:List Nat}{c:Nat} (t:Nat):Al N a b c->Al N (t::a) b (N.drop t+c)
 |keep {a b:List Nat}{c:Nat} (t:Nat):Al N a b c->Al N (t::a) (t::b) c
 |swap {a b:List Nat}{c:Nat} (t u:Nat):N.swp t u≠0->Al N a b c->Al N (t::a) (u::b) (N.swp t u+c)
def AY (N:NG):List Nat->Nat
 | []=>0
 |t::l=>N.drop t+AY N l
theorem P5 (N:NG) (a b:List Nat):AY N (a++b)=AY N a+AY N b:=by
 induction a with
 |nil=>simp[AY]
 |cons t l ih=>simp[AY,ih];omega
theorem Al.refl (N:NG):∀l:List Nat,Al N l l 0
 | []=>.nil
 |t::l=>.keep t (Al.refl N l)
theorem Al.Ai {N:NG}{a b:List Nat}{c:Nat} (h:Al N a b c):∀d:List Nat,Al N (d++a) b (AY N d+c)
 | []=>by simpa[AY] using h
 |t::d=>by
  have:=Al.drop t (Al.Ai h d);rw[<-uo]at this;exact this
theorem Al.append {a' b':List Nat}{c':Nat} (h:Al N a b c) (h':Al N a' b' c'):Al N (a++a') (b++b') (c+c'):=by
 induction h with
 |nil=>simpa using h'
 |put t _ ih=>rw[iw,uo];exact .put t ih
 |drop t _ ih=>rw[iw,uo];exact .drop t ih
 |keep t _ ih=>exact .keep t ih
 |swap t u hs _ ih=>rw[iw,iw,uo];exact .swap t u hs ih
theorem xI  (h:Al N a b c):b=[]->c=AY N a:=by
 induction h with
 |nil=>intro _;rfl
 |put t _ _=>intro h;cases h
 |drop t _ ih=>intro h;rw[ih h];rfl
 |keep t _ _=>intro h;cases h
 |swap t u _ _ _=>intro h;cases h
def KB (N:NG) (x t:Nat):Option Nat:=if x=t then some 0 else if N.swp x t=0 then none else some (N.swp x t)
theorem xJ {r:List Nat} (h:Al N a r c):∀{t:Nat}{b:List Nat},r=t::b->
  (∃c',Al N a b c'/\N.put t+c'<=c)\/(∃d x a' c' k,a=d++x::a'/\Al N a' b c'/\KB N x t=some k/\AY N d+k+c'<=c):=by
 induction h with
 |nil=>intro _ _ h;cases h
 | @put a b c u hb ih=>
  intro t b' h;injection h with h1 h2
  subst h1;subst h2;exact .inl ⟨_,hb,zn _⟩
 | @drop a b c u hb ih=>
  intro t b' h
  rcases ih h with⟨c',h1,h2⟩ | ⟨d,x,a',c',k,h1,h2,h3,h4⟩
  ·exact .inl ⟨_,.drop u h1,by omega⟩
  ·refine .inr ⟨u::d,x,a',c',k,by rw[h1];rfl,h2,h3,?_⟩
   simp only[AY];omega
 | @keep a b c u hb ih=>
  intro t b' h;injection h with h1 h2
  subst h1;subst h2;exact .inr ⟨[],u,a,c,0,rfl,hb,by simp[KB],by simp[AY]⟩
 | @swap a b c u v hs hb ih=>
  intro t b' h;injection h with h1 h2
  subst h1;subst h2
  by_cases he:u=v
  ·subst he
   exact .inr ⟨[],u,a,c,0,rfl,hb,by simp[KB],by simp[AY]⟩
  ·exact .inr ⟨[],u,a,c,N.swp u v,rfl,hb,by simp[KB,he,hs],by simp[AY]⟩
theorem oH {r:List Nat} (h:Al N a r c):∀(x y:List Nat),r=x++y->∃a1 a2 c1 c2,a=a1++a2/\Al N a1 x c1/\Al N a2 y c2/\c1+c2<=c:=by
 induction h with
 |nil=>
  intro x y h;obtain⟨rfl,rfl⟩:=List.append_eq_nil_iff.1 h.symm;exact⟨[],[],0,0,rfl,.nil,.nil,zn _⟩
 | @put a b c u hb ih=>
  intro x y h;cases x with
  |nil=>
   simp only[ey]at h;subst h;exact⟨[],a,0,_,rfl,.nil,Al.put u hb,by omega⟩
  |cons x0 x=>
   injection h with h1 h2
   subst h1;obtain⟨a1,a2,c1,c2,e,k1,k2,k3⟩:=ih x y h2;exact⟨a1,a2,_,c2,e,.put u k1,k2,by omega⟩
 | @drop a b c u hb ih=>
  intro x y h;obtain⟨a1,a2,c1,c2,e,k1,k2,k3⟩:=ih x y h;exact⟨u::a1,a2,_,c2,by rw[e];rfl,.drop u k1,k2,by omega⟩
 | @keep a b c u hb ih=>
  intro x y h;cases x with
  |nil=>
   simp only[ey]at h;subst h;exact⟨[],u::a,0,_,rfl,.nil,Al.keep u hb,by omega⟩
  |cons x0 x=>
   injection h with h1 h2
   subst h1;obtain⟨a1,a2,c1,c2,e,k1,k2,k3⟩:=ih x y h2;exact⟨u::a1,a2,c1,c2,by rw[e];rfl,.keep u k1,k2,by omega⟩
 | @swap a b c u v hs hb ih=>
  intro x y h;cases x with
  |nil=>
   simp only[ey]at h;subst h;exact⟨[],u::a,0,_,rfl,.nil,Al.swap u v hs hb,by omega⟩
  |cons x0 x=>
   injection h with h1 h2
   subst h1;obtain⟨a1,a2,c1,c2,e,k1,k2,k3⟩:=ih x y h2;exact⟨u::a1,a2,_,c2,by rw[e];rfl,.swap u v hs k1,k2,by omega⟩
structure Rx (N:NG) (tl:Nat->Option (List Pt)) (hd:Nat->Nat->Prop):Prop where
 next:∀i p ps,tl i=some (p::ps)->tl (i+1)=some ps
 head:∀n rhs,(n,rhs)∈N.rules->∃i,hd n i/\tl i=some rhs
 rule:∀n i,hd n i->∃rhs,tl i=some rhs/\(n,rhs)∈N.rules
structure gL (N:NG) (tl:Nat->Option (List Pt)) (hd:Nat->Nat->Prop) (row:List Nat) (Wn Wp:Nat->Nat->Nat->Nat):Prop where
 nil:∀q i,tl q=some []->i<=row.length->Wp q i i=0
 put:∀q t ps i k,tl q=some (.tok t::ps)->i<=k->k<=row.length->Wp q i k<=N.put t+Wp (q+1) i k
 keep:∀q t ps i j k x c,tl q=some (.tok t::ps)->i<=j->j<k->k<=row.length->row[j]?=some x->KB N x t=some c->Wp q i k<=AY N ((row.drop i).take (j - i))+c+Wp (q+1) (j+1) k
 zi:∀q n ps i j k,tl q=some (.zi n::ps)->i<=j->j<=k->k<=row.length->Wp q i k<=Wn n i j+Wp (q+1) j k
 rule:∀n q i j,hd n q->i<=j->j<=row.length->Wn n i j<=Wp q i j
theorem XZ {hd:Nat->Nat->Prop} (hT:Rx N tl hd) {Wn Wp:Nat->Nat->Nat->Nat} (hW:gL N tl hd row Wn Wp) {ps:List Pt} (h:Bb N ps b):
  ∀(q:Nat) (p a s:List Nat) (c:Nat),tl q=some ps->row=p++a++s->Al N a b c->∃a1 d,a=a1++d/\Wp q p.length (p.length+a1.length)+AY N d<=c:=by
 induction h with
 |nil=>
  intro q p a s c hq hr ha;refine⟨[],a,rfl,?_⟩;rw[xI ha rfl];have:=hW.nil q p.length hq (by rw[hr];simp);simp only[jd,qj];omega
 | @tok t ps b hb ih=>
  intro q p a s c hq hr ha
  rcases xJ ha rfl with⟨c',h1,h2⟩ | ⟨d,x,a',c',k,h1,h2,h3,h4⟩
  ·obtain⟨a1,dd,e,h5⟩:=ih (q+1) p a s c' (hT.next _ _ _ hq) hr h1
   refine⟨a1,dd,e,?_⟩;have:=hW.put q t ps p.length (p.length+a1.length) hq (by omega) (by rw[hr,e];simp <;> omega);omega
  ·have hr':row=(p++d++ [x])++a'++s:=by rw[hr,h1];simp
   obtain⟨a1,dd,e,h5⟩:=ih (q+1) (p++d++ [x]) a' s c' (hT.next _ _ _ hq) hr' h2;refine⟨d++x::a1,dd,by rw[h1,e];simp,?_⟩;have hlen:(p++d++ [x]).length=p.length+d.length+1:=by simp;omega
   rw[hlen]at h5;have aiY:row[p.length+d.length]?=some x:=by
    rw[hr',aA,aL (by rw[hlen];omega),Bc (by simp)];simp
   have aa1:(row.drop p.length).take (p.length+d.length - p.length)=d:=by
    rw[hr,h1,aA,zk];rw[show p.length+d.length - p.length=d.length by omega];rw[aA,List.take_left]
   have:=hW.keep q t ps p.length (p.length+d.length) (p.length+(d++x::a1).length) x k hq (by omega) (by simp) (by rw[hr',e];simp <;> omega) aiY h3;rw[aa1]at this;have e2:p.length+(d++x::a1).length=p.length+d.length+1+a1.length:=by simp;omega
   rw[e2]at this ⊢;omega
 | @zi n rhs ps x y hmem hx hy ih1 ih2=>
  intro q p a s c hq hr ha;obtain⟨b1,b2,c1,c2,e,k1,k2,k3⟩:=oH ha x y rfl;obtain⟨r,hr1,hr2⟩:=hT.head n rhs hmem;obtain⟨a1,d1,e1,h1⟩:=ih1 r p b1 (b2++s) c1 hr2 (by rw[hr,e];simp) k1;have hr':row=(p++a1)++(d1++b2)++s:=by rw[hr,e,e1];simp
  obtain⟨a2,d2,e2,h2⟩:=ih2 (q+1) (p++a1) (d1++b2) s (AY N d1+c2) (hT.next _ _ _ hq) hr' (k2.Ai d1);refine⟨a1++a2,d2,by rw[e,e1,aA,e2,aA],?_⟩;have hle:p.length+a1.length+a2.length<=row.length:=by rw[hr',e2];simp <;> omega
  have h3:=hW.zi q n ps p.length (p.length+a1.length) (p.length+a1.length+a2.length) hq (by omega) (by omega) hle;have h4:=hW.rule n r p.length (p.length+a1.length) hr1 (by omega) (by omega);rw[lA]at h2;rw[lA,<-uo];omega
structure Ab where
 loc:Nat
 kind:Nat
 old:Nat
 new:Nat
 cost:Nat
inductive Aa (N:NG) (row:List Nat):Nat->List Ab->Nat->List Nat->Nat->Prop
 |done (i:Nat):Aa N row i [] i [] 0
 |keep {i x j:Nat}{E:List Ab}{b:List Nat}{c:Nat}:row[i]?=some x->Aa N row (i+1) E j b c->Aa N row i E j (x::b) c
 |put {i t j:Nat}{E:List Ab}{b:List Nat}{c:Nat}:t<N.nT->Aa N row i E j b c->Aa N row i (⟨i,1,N.nT,t,N.put t⟩::E) j (t::b) (N.put t+c)
 |drop {i x j:Nat}{E:List Ab}{b:List Nat}{c:Nat}:row[i]?=some x->Aa N row (i+1) E j b c->Aa N row i (⟨i,2,x,N.nT,N.drop x⟩::E) j b (N.drop x+c)
 |swap {i x u j:Nat}{E:List Ab}{b:List Nat}{c:Nat}:row[i]?=some x->u<N.nT->x≠u->N.swp x u≠0->Aa N row (i+1) E j b c->Aa N row i (⟨i,3,x,u,N.swp x u⟩::E) j (u::b) (N.swp x u+c)
theorem Aa.le {E:List Ab} (h:Aa N row i E j b c):i<=j:=by
 induction h with
 |done i=>omega
 |keep _ _ ih=>omega
 |put _ _ ih=>omega
 |drop _ _ ih=>omega
 |swap _ _ _ _ _ ih=>omega
theorem Aa.append {E F:List Ab}{d:List Nat}{e:Nat} (h:Aa N row i E j b c) (h':Aa N row j F k d e):Aa N row i (E++F) k (b++d) (c+e):=by
 induction h with
 |done i=>simpa using h'
 |keep hx _ ih=>exact .keep hx (ih h')
 |put ht _ ih=>rw[uo];exact .put ht (ih h')
 |drop hx _ ih=>rw[uo];exact .drop hx (ih h')
 |swap hx hu hn hs _ ih=>rw[uo];exact .swap hx hu hn hs (ih h')
theorem Aa.keeps {N:NG}{row:List Nat}:∀(n i:Nat),i+n<=row.length->Aa N row i [] (i+n) ((row.drop i).take n) 0
 |0,i,_=>by simpa using Aa.done i
 |n+1,i,h=>by
  have hi:i<row.length:=by omega
  have h1:=Aa.keeps (N:=N) (row:=row) n (i+1) (by omega);have e:(row.drop i).take (n+1)=row[i]::(row.drop (i+1)).take n:=by
   rw[gm hi,sy]
  rw[e,show i+(n+1)=i+1+n by omega];exact .keep (gE hi) h1
def DY (N:NG) (row:List Nat) (i n:Nat):List Ab:=(List.range n).map λk=>⟨i+k,2,row.getD (i+k) 0,N.nT,N.drop (row.getD (i+k) 0)⟩
theorem Aa.Ai {N:NG}{row:List Nat}:∀(n i:Nat),i+n<=row.length->Aa N row i (DY N row i n) (i+n) [] (AY N ((row.drop i).take n))
 |0,i,_=>by simpa[DY,AY] using Aa.done i
 |n+1,i,h=>by
  have hi:i<row.length:=by omega
  have h1:=Aa.Ai (N:=N) (row:=row) n (i+1) (by omega);have e:(row.drop i).take (n+1)=row[i]::(row.drop (i+1)).take n:=by
   rw[gm hi,sy]
  have e2:DY N row i (n+1)=⟨i,2,row[i],N.nT,N.drop row[i]⟩::DY N row (i+1) n:=by
   unfold DY;rw[List.range_succ_eq_map,jx,qm];have hg:row.getD (i+0) 0=row[i]:=by simp[hi]
   rw[hg,qj]
   congr 1
   apply mj;intro k _;simp only[Function.comp,show i+k.succ=i+1+k by omega]
  rw[e,e2,show i+(n+1)=i+1+n by omega];exact .drop (gE hi) h1
theorem Aa.al {E:List Ab} (h:Aa N row i E j b c) (hj:j<=row.length):Al N ((row.drop i).take (j - i)) b c:=by
 have cut:∀{i x j:Nat},row[i]?=some x->i+1<=j->(row.drop i).take (j - i)=x::(row.drop (i+1)).take (j - (i+1)):=λ{i x j} hx hl=>by
  obtain⟨hi,e⟩:=zM.1 hx;rw[gm hi,show j - i=(j - (i+1))+1 by omega,sy,e]
 induction h with
 |done i=>rw[ku,uu];exact .nil
 |keep hx h ih=>rw[cut hx h.le];exact .keep _ (ih hj)
 |put ht h ih=>exact .put _ (ih hj)
 |drop hx h ih=>rw[cut hx h.le];exact .drop _ (ih hj)
 |swap hx hu hn hs h ih=>rw[cut hx h.le];exact .swap _ _ hs (ih hj)
theorem Aa.sum {E:List Ab} (h:Aa N row i E j b c):(E.map (·.cost)).sum=c:=by
 induction h with
 |done i=>rfl
 |keep _ _ ih=>exact ih
 |put _ _ ih=>simp[ih]
 |drop _ _ ih=>simp[ih]
 |swap _ _ _ _ _ ih=>simp[ih]
theorem Aa.same {E:List Ab} (h:Aa N row i E j b c) (hj:j<=row.length):E=[]->b=(row.drop i).take (j - i):=by
 have cut:∀{i x j:Nat},row[i]?=some x->i+1<=j->(row.drop i).take (j - i)=x::(row.drop (i+1)).take (j - (i+1)):=λ{i x j} hx hl=>by
  obtain⟨hi,e⟩:=zM.1 hx;rw[gm hi,show j - i=(j - (i+1))+1 by omega,sy,e]
 induction h with
 |done i=>intro _;rw[ku,uu]
 |keep hx h ih=>intro e;rw[cut hx h.le,<-ih hj e]
 |put _ _ _=>intro e;cases e
 |drop _ _ _=>intro e;cases e
 |swap _ _ _ _ _ _=>intro e;cases e
section
abbrev Wt:=Nat × Nat
def AJ:Nat:=1048576
def GH:Nat:=939524097
def Ao (a b:Wt):Prop:=a.1<b.1\/a.1=b.1/\a.2<=b.2
def GO (a b:Wt):Wt:=(a.1+b.1,min (a.2+b.2) GH)
def named (a:Wt):Wt:=GO a (0,1)
theorem FV (a:Wt):Ao a a:=.inr ⟨rfl,zn _⟩
theorem GU {a b c:Wt} (h:Ao a b) (k:Ao b c):Ao a c:=by unfold Ao at*;omega
theorem cQ {a b:Wt} (h:Ao a b) (k:Ao b a):a=b:=by
 unfold Ao at*;have h1:a.1=b.1:=by omega
 have h2:a.2=b.2:=by omega
 exact xe h1 h2
theorem KK {a b:Wt} (h:Ao a b):a.1<=b.1:=by unfold Ao at h;omega
theorem YB {a b c d:Wt} (h:Ao a b) (k:Ao c d):Ao (GO a c) (GO b d):=by
 unfold Ao GO at*;simp only
 by_cases h1:a.1+c.1<b.1+d.1
 ·exact .inl h1
 ·have e1:a.1=b.1:=by omega
  have e2:c.1=d.1:=by omega
  exact .inr ⟨by omega,by omega⟩
def FQ (N:NG) (x t:Nat):Nat:=(KB N x t).getD AJ
def EH (N:NG) (row:List Nat) (i j:Nat):Nat:=AY N ((row.drop i).take (j - i))
def G9 (N:NG) (row:List Nat) (t i k:Nat):Wt:=if i=k then(N.put t,1)else(EH N row i (k - 1)+FQ N (row.getD (k - 1) 0) t,1)
def D9 (N:NG) (row:List Nat) (cn:Nat->Nat->Nat->Wt):Pt->Nat->Nat->Wt
 | .tok t,i,k=>G9 N row t i k
 | .zi n,i,k=>cn n i k
def DE (N:NG) (row:List Nat) (cn ct:Nat->Nat->Nat->Wt) (p:Pt) (q i j k:Nat):Wt:=GO (D9 N row cn p i j) (ct (q+1) j k)
structure ET (N:NG) (tl:Nat->Option (List Pt)) (hd:Nat->Nat->Prop) (row:List Nat) (cn ct:Nat->Nat->Nat->Wt) (i k:Nat):Prop where
 cut:∀q p ps j,tl q=some (p::ps)->i<=j->j<=k->Ao (ct q i k) (DE N row cn ct p q i j k)
 Jz:∀q,tl q=some []->ct q i k=if i=k then(0,0)else(AJ,0)
 zi:∀n q,hd n q->Ao (cn n i k) (named (ct q i k))
 Ny:∀q p ps,tl q=some (p::ps)->ct q i k=(AJ,0)\/∃j,i<=j/\j<=k/\ct q i k=DE N row cn ct p q i j k
 Py:∀n,n<N.nN->cn n i k=(AJ,0)\/∃q,hd n q/\cn n i k=named (ct q i k)
theorem PD  (h1:i<k) (h2:k<=row.length):∃x,row[k - 1]?=some x/\row.getD (k - 1) 0=x:=by
 refine⟨row[k - 1],gE (by omega),?_⟩;rw[Af,gE (by omega)];rfl
theorem MN {hd:Nat->Nat->Prop}{cn ct:Nat->Nat->Nat->Wt} (h:∀i k,i<=k->k<=row.length->ET N tl hd row cn ct i k):
  gL N tl hd row (λn i k=>(cn n i k).1) (λq i k=>(ct q i k).1) where
 nil:=λq i hq hi=>by
  have:=(h i i (zn _) hi).Jz q hq;rw[ay rfl]at this;simp only[this]
 put:=λq t ps i k hq hik hk=>by
  have h1:=KK ((h i k hik hk).cut q _ ps i hq (zn _) hik);simp only[DE,GO,D9,G9,ay]at h1;exact h1
 keep:=λq t ps i j k x c hq hij hjk hk hx hc=>by
  have h1:=KK ((h i k (by omega) hk).cut q _ ps (j+1) hq (by omega) (by omega));obtain⟨y,hy,e⟩:=PD (i:=j) (k:=j+1) (by omega) (by omega:j+1<=row.length);rw[show j+1 - 1=j by omega]at hy e;rw[hx]at hy;obtain rfl:x=y:=by injection hy
  simp only[DE,GO,D9,G9]at h1;rw[aq (by omega),show j+1 - 1=j by omega,e]at h1;simp only[EH,FQ,hc,jq]at h1;exact h1
 zi:=λq n ps i j k hq hij hjk hk=>by
  exact KK ((h i k (by omega) hk).cut q _ ps j hq hij hjk)
 rule:=λn q i j hd hij hj=>by
  have:=KK ((h i j hij hj).zi n q hd);simpa[named,GO] using this
def Zt (N:NG):Prop:=∀r∈N.rules,∃t ps,r.2=Pt.tok t::ps
section
variable {N:NG}{tl:Nat->Option (List Pt)}{hd:Nat->Nat->Prop}{row:List Nat}{cn ct:Nat->Nat->Nat->Wt}
theorem r9 (hN:N.Ok) (hG:Zt N) (hT:Rx N tl hd)  (h:ET N tl hd row cn ct i i) {n:Nat} (hn:n<N.nN):1<=(cn n i i).1:=by
 rcases h.Py n hn with e | ⟨q,hq,e⟩
 ·rw[e];unfold AJ;omega
 ·rw[e]
  obtain⟨rhs,h1,h2⟩:=hT.rule n q hq;obtain⟨t,ps,h3⟩:=hG _ h2;simp only at h3;subst h3;have ht:=hN.Yz t (hN.pt _ h2 t (ew ..))
  rcases h.Ny q _ _ h1 with e2 | ⟨j,h4,h5,e2⟩
  ·rw[e2];simp only[named,GO];unfold AJ;omega
  ·obtain rfl:j=i:=by omega
   rw[e2];simp only[named,GO,DE,D9,G9,ay];omega
def M4 (tl:Nat->Option (List Pt)) (q i k c:Nat):Nat:=2*((k - i)*(2*AJ)+c)+match tl q with
 |some (.zi _::_)=>1
 |_=>0
theorem j8 {q q' i' k' c':Nat} (hc':c'<2*AJ) (h:k' - i'<k - i\/k' - i'=k - i/\c'<c):M4 tl q' i' k' c'<M4 tl q i k c:=by
 unfold M4;have h1:(match tl q' with |some (.zi _::_)=>1 |_=>0:Nat)<=1:=by split <;> omega
 have h2:(k' - i')*(2*AJ)+c'< (k - i)*(2*AJ)+c:=by
  rcases h with h | ⟨h,h'⟩
  ·have h3:(k' - i'+1)*(2*AJ)<=(k - i)*(2*AJ):=oy _ h
   rw[Nat.add_mul,Nat.one_mul]at h3;omega
  ·rw[h];omega
 omega
end
end
section
section
variable {N:NG}{tl:Nat->Option (List Pt)}{hd:Nat->Nat->Prop}{row:List Nat}{cn ct:Nat->Nat->Nat->Wt}
theorem ZN (hN:N.Ok) {t:Nat} (ht:t<N.nT) (h:i=j):1<=(G9 N row t i j).1:=by
 unfold G9;rw[ay h];exact hN.Yz t ht
theorem U0 (hN:N.Ok) (hG:Zt N) (hT:Rx N tl hd) (hW:∀i k,i<=k->k<=row.length->ET N tl hd row cn ct i k)
  {q i k j:Nat}{p:Pt}{ps:List Pt} (hq:tl q=some (p::ps)) (hp:∀t,p=.tok t->t<N.nT) (hp':∀n,p=.zi n->n<N.nN) (hlt:(ct q i k).1<AJ) (hij:i<=j) (hjk:j<=k) (hk:k<=row.length) (e:ct q i k=DE N row cn ct p q i j k):
  (D9 N row cn p i j).1+(ct (q+1) j k).1=(ct q i k).1/\M4 tl (q+1) j k (ct (q+1) j k).1<M4 tl q i k (ct q i k).1/\
   ∀n,p=.zi n->∀r,hd n r->cn n i j=named (ct r i j)->(ct r i j).1=(cn n i j).1/\M4 tl r i j (ct r i j).1<M4 tl q i k (ct q i k).1:=by
 have h1:(D9 N row cn p i j).1+(ct (q+1) j k).1=(ct q i k).1:=by rw[e];rfl
 refine⟨h1,?_,λn hn r hr hc=>?_⟩
 ·refine j8 (by unfold AJ at*;omega) ?_
  by_cases h2:i=j
  ·refine .inr ⟨by omega,?_⟩
   have:1<=(D9 N row cn p i j).1:=by
    cases p with
    |tok t=>exact ZN hN (hp t rfl) h2
    |zi n=>subst h2;exact r9 hN hG hT (hW i i (zn _) (by omega)) (hp' n rfl)
   omega
  ·exact .inl (by omega)
 ·subst hn
  obtain⟨rhs,h3,h4⟩:=hT.rule n r hr;obtain⟨t,ps',h5⟩:=hG _ h4;simp only at h5;subst h5;have h6:(ct r i j).1=(cn n i j).1:=by rw[hc];simp[named,GO]
  refine⟨h6,?_⟩;have h7:(D9 N row cn (.zi n) i j).1=(cn n i j).1:=rfl;unfold M4;rw[hq,h3];simp only;have h8:(ct r i j).1<=(ct q i k).1:=by omega
  have h9:(j - i)*(2*AJ)<=(k - i)*(2*AJ):=oy _ (by omega);omega
theorem agn {P:Prop} (h:P:=by
  have h1:=(hW i k hik hk).Jz q hq
  by_cases h2:i=k
  ·subst h2;rw[ku,uu];exact .nil
  ·rw[aq h2]at h1;rw[h1]at h0;unfold AJ at h0;omega):P:=h
theorem rU (hN:N.Ok) (hG:Zt N) (hT:Rx N tl hd) (Ca:∀q l,tl q=some l->(∀t,Pt.tok t∈l->t<N.nT)/\∀n,Pt.zi n∈l->n<N.nN) (hr:∀x∈row,x<N.nT) (hW:∀i k,i<=k->k<=row.length->ET N tl hd row cn ct i k):
  ∀(m q i k:Nat) (l:List Pt),M4 tl q i k (ct q i k).1<=m->tl q=some l->i<=k->k<=row.length->(ct q i k).1=0->Bb N l ((row.drop i).take (k - i)):=by
 intro m
 induction m with
 |zero=>
  intro q i k l hm hq hik hk h0;cases l with
  |nil=>
   exact agn
  |cons p ps=>
   rcases(hW i k hik hk).Ny q p ps hq with e | ⟨j,h1,h2,e⟩
   ·rw[e]at h0;unfold AJ at h0;omega
   ·have:=(U0 hN hG hT hW hq (λt e=>(Ca q _ hq).1 t acy) (λn e=>(Ca q _ hq).2 n acy) (by rw[h0];unfold AJ;omega) h1 h2 hk e).2.1
    omega
 |succ m ih=>
  intro q i k l hm hq hik hk h0;cases l with
  |nil=>
   exact agn
  |cons p ps=>
   rcases(hW i k hik hk).Ny q p ps hq with e | ⟨j,h1,h2,e⟩
   ·rw[e]at h0;unfold AJ at h0;omega
   ·obtain⟨s1,s2,s3⟩:=U0 hN hG hT hW hq (λt e=>(Ca q _ hq).1 t acy) (λn e=>(Ca q _ hq).2 n acy) (by rw[h0];unfold AJ;omega) h1 h2 hk e
    have Ja:=ih (q+1) j k ps (by omega) (hT.next _ _ _ hq) h2 hk (by omega);have ago:(row.drop i).take (k - i)=(row.drop i).take (j - i)++(row.drop j).take (k - j):=by
     have h3:k - i=(j - i)+(k - j):=by omega
     rw[h3,List.take_add,zj,show i+(j - i)=j by omega]
    cases p with
    |tok t=>
     have ht:t<N.nT:=(Ca q _ hq).1 t (ew ..);have h4:(G9 N row t i j).1=0:=by
      have:(D9 N row cn (.tok t) i j).1=(G9 N row t i j).1:=rfl;omega
     have hij:i<j:=by
      rcases jz i j with h |h
      ·exact h
      ·have:=ZN (row:=row) hN ht (show i=j by omega);omega
     obtain⟨x,hx,hx'⟩:=PD hij (by omega:j<=row.length);unfold G9 at h4;rw[aq (by omega),hx']at h4;simp only at h4;have h5:EH N row i (j - 1)=0:=by omega
     have h6:FQ N x t=0:=by omega
     have h7:x=t:=by
      unfold FQ KB at h6
      by_cases h8:x=t
      ·exact h8
      ·rw[aq h8]at h6
       by_cases h9:N.swp x t=0
       ·rw[ay h9]at h6;simp[AJ]at h6
       ·rw[aq h9]at h6;simp at h6;omega
     subst h7;have h8:j=i+1:=by
      rcases jz (i+1) j with h |h
      ·unfold EH at h5
       rw[gm (by omega:i<row.length),show j - 1 - i=(j - 2 - i)+1 by omega,sy]at h5;simp only[AY]at h5;have:=hN.abq _ (hr _ (ot (by omega:i<row.length)));omega
      ·omega
     subst h8;rw[show i+1 - 1=i by omega]at hx;have h9:(row.drop i).take (i+1 - i)=[x]:=by
      obtain⟨hi,e⟩:=zM.1 hx;rw[show i+1 - i=1 by omega,gm hi,e];simp
     rw[ago,h9];exact .tok Ja
    |zi n=>
     have hn:n<N.nN:=(Ca q _ hq).2 n (ew ..);have h7:(D9 N row cn (.zi n) i j).1=(cn n i j).1:=rfl
     rcases(hW i j h1 (by omega)).Py n hn with e2 | ⟨r,hr2,e2⟩
     ·rw[e2]at h7;simp only at h7;unfold AJ at h7;omega
     ·obtain⟨h8,h9⟩:=s3 n rfl r hr2 e2
      obtain⟨rhs,h10,h11⟩:=hT.rule n r hr2;have:=ih r i j rhs (by omega) h10 h1 (by omega) (by omega);rw[ago];exact .zi h11 this Ja
end
end
section
theorem WX {n:Nat} (h:Bb N [.zi n] b):∃rhs,(n,rhs)∈N.rules/\Bb N rhs b:=by
 cases h with
 |zi hm ha hb=>
  cases hb;rw[fy];exact⟨_,hm,ha⟩
theorem YY {d:List Nat}:EH N (a++d) a.length (a++d).length=AY N d:=by
 unfold EH;rw[zk,lA,show a.length+d.length - a.length=d.length by omega,om]
section
variable {N:NG}{tl:Nat->Option (List Pt)}{hd:Nat->Nat->Prop}{row:List Nat}{cn ct:Nat->Nat->Nat->Wt}
theorem eG (hT:Rx N tl hd) (hW:∀i k,i<=k->k<=row.length->ET N tl hd row cn ct i k) {e:Nat}
  (he:∀a,a<=row.length->(cn 0 0 e).1+EH N row e row.length<=(cn 0 0 a).1+EH N row a row.length) {b:List Nat}{c:Nat} (hb:Bb N [.zi 0] b) (ha:Al N row b c):
  (cn 0 0 e).1+EH N row e row.length<=c:=by
 obtain⟨rhs,h1,h2⟩:=WX hb;obtain⟨q,h3,h4⟩:=hT.head 0 rhs h1;obtain⟨a1,d,h5,h6⟩:=XZ hT (MN hW) h2 q [] row [] c h4 (by simp) ha;have h7:=he a1.length (by rw[h5];simp);have h8:=(MN hW).rule 0 q 0 a1.length h3 (by omega) (by rw[h5];simp);simp only[jd,ju]at h6;have h9:EH N row a1.length row.length=AY N d:=by
  have:=YY (N:=N) (a:=a1) (d:=d);rw[<-h5]at this;exact this
 have h8:(cn 0 0 a1.length).1<=(ct q 0 a1.length).1:=h8;omega
def S4 (N:NG):List Nat->Nat
 | []=>0
 |t::l=>N.put t+S4 N l
theorem gC (N:NG):∀b:List Nat,Al N [] b (S4 N b)
 | []=>.nil
 |t::b=>.put t (gC N b)
theorem uO (N:NG) (row b:List Nat):Al N row b (AY N row+S4 N b):=by
 have:=(gC N b).Ai row;rw[fy]at this;exact this
theorem PR {N:NG} (hN:N.Ok):∀{row:List Nat},(∀x∈row,x<N.nT)->AY N row<=99*row.length
 | [],_=>dh _
 |t::l,h=>by
  have h1:=hN.acM t (h t (ew ..));have h2:=PR hN (row:=l) (λx hx=>h x (gj _ hx));simp only[AY,lC];omega
end
end
def Wr (zH:Nat->Nat->Option (List Pt)):Prop:=∀n k rhs,zH n k=some rhs->∃rest,rhs=Pt.tok k::rest
def QG (N:NG) (zH:Nat->Nat->Option (List Pt)):Prop:=∀n rhs,(n,rhs)∈N.rules↔∃k,zH n k=some rhs
theorem pZ  (h:QG N zH) (hl:Wr zH):Zt N:=λr hr=>by
 obtain⟨k,hk⟩:=(h r.1 r.2).1 hr;obtain⟨rest,e⟩:=hl _ _ _ hk;exact⟨k,rest,e⟩
def DH (zH:Nat->Nat->Option (List Pt)):List Pt->Nat->Option (List Pt)
 | [],_=>none
 | .tok u::s,t=>if u=t then some s else none
 | .zi n::s,t=>(zH n t).map λrhs=>rhs.tail++s
def D4 (zH:Nat->Nat->Option (List Pt)):List Pt->List Nat->Option (List Pt)
 |l,[]=>some l
 |l,t::b=>(DH zH l t).bind λs=>D4 zH s b
theorem JA (zH:Nat->Nat->Option (List Pt)):∀(l:List Pt) (a b:List Nat),D4 zH l (a++b)=(D4 zH l a).bind λs=>D4 zH s b
 |l,[],b=>rfl
 |l,t::a,b=>by
  show(DH zH l t).bind (λs=>D4 zH s (a++b))=((DH zH l t).bind λs=>D4 zH s a).bind λs=>D4 zH s b
  cases DH zH l t with
  |none=>rfl
  |some s=>exact JA zH s a b
theorem uG  (hr:QG N zH) (hl:Wr zH)  (h:Bb N l b):∀s,D4 zH (l++s) b=some s:=by
 induction h with
 |nil=>intro s;rfl
 | @tok t ps r _ ih=>
  intro s;show(DH zH (.tok t::(ps++s)) t).bind _=_;simp only[DH,ay];exact ih s
 | @zi n rhs ps a b hm ha hb ih1 ih2=>
  intro s;obtain⟨k,hk⟩:=(hr n rhs).1 hm;obtain⟨rest,e⟩:=hl _ _ _ hk;subst e;cases ha with
  | @tok _ _ r Mh=>
   have h1:=ih1 (ps++s);have h2:D4 zH (rest++(ps++s)) r=some (ps++s):=by
    have h3:D4 zH (.tok k::rest++(ps++s)) (k::r)=D4 zH (rest++(ps++s)) r:=by
     show(DH zH (.tok k::(rest++(ps++s))) k).bind _=_;simp only[DH,ay];rfl
    rw[<-h3];exact h1
   show(DH zH (.zi n::(ps++s)) k).bind (λs=>D4 zH s (r++b))=some s;simp only[DH,hk,kq,List.tail_cons,Option.bind_some];rw[JA,h2];exact ih2 s
theorem kX:∀{l:List Pt}{b:List Nat},Bb N l b->∀(x y:List Pt),l=x++y->∃b1 b2,b=b1++b2/\Bb N x b1/\Bb N y b2:=by
 intro l b h
 induction h with
 |nil=>
  intro x y e;obtain⟨rfl,rfl⟩:=List.append_eq_nil_iff.1 e.symm;exact⟨[],[],rfl,.nil,.nil⟩
 | @tok t ps r h0 ih=>
  intro x y e;cases x with
  |nil=>
   simp only[ey]at e;subst e;exact⟨[],t::r,rfl,.nil,.tok h0⟩
  |cons p x=>
   injection e with e1 e2
   subst e1;obtain⟨b1,b2,e3,k1,k2⟩:=ih x y e2;exact⟨t::b1,b2,by rw[e3];rfl,.tok k1,k2⟩
 | @zi n rhs ps a b hm ha hb ih1 ih2=>
  intro x y e;cases x with
  |nil=>
   simp only[ey]at e;subst e;exact⟨[],a++b,rfl,.nil,.zi hm ha hb⟩
  |cons p x=>
   injection e with e1 e2
   subst e1;obtain⟨b1,b2,e3,k1,k2⟩:=ih2 x y e2;exact⟨a++b1,b2,by rw[e3,aA],.zi hm ha k1,k2⟩
theorem XT {N:NG}{zH:Nat->Nat->Option (List Pt)} (hr:QG N zH) (hl:Wr zH):∀(b:List Nat) (l:List Pt),D4 zH l b=some []->Bb N l b
 | [],l,h=>by
  have:l=[]:=by injection h
  subst this;exact .nil
 |t::b,l,h=>by
  cases l with
  |nil=>cases h
  |cons p s=>
   cases p with
   |tok u=>
    have h:(DH zH (.tok u::s) t).bind (λs=>D4 zH s b)=some []:=h;simp only[DH]at h
    by_cases e:u=t
    ·subst e
     rw[ay rfl]at h;exact .tok (XT hr hl b s h)
    ·rw[aq e]at h;cases h
   |zi n=>
    have h:(DH zH (.zi n::s) t).bind (λs=>D4 zH s b)=some []:=h;simp only[DH]at h;cases hk:zH n t with
    |none=>rw[hk]at h;cases h
    |some rhs=>
     rw[hk]at h;obtain⟨rest,e⟩:=hl _ _ _ hk;subst e;have h2:D4 zH (rest++s) b=some []:=h;obtain⟨b1,b2,e,k1,k2⟩:=kX (XT hr hl b _ h2) rest s rfl;subst e;exact .zi (a:=t::b1) ((hr _ _).2 ⟨_,hk⟩) (.tok k1) k2
structure GF where
 part:Pt
 rule:Int
 size:Nat
inductive Az (zH:Nat->Nat->Option (List Pt)):List Pt->List Nat->List GF->Prop
 |nil:Az zH [] [] []
 |tok {t:Nat}{ps:List Pt}{r:List Nat}{T:List GF}:Az zH ps r T->Az zH (.tok t::ps) (t::r) (⟨.tok t,-1,1⟩::T)
 |zi {n k:Nat}{rhs ps:List Pt}{a b:List Nat}{S T:List GF}:zH n k=some rhs->Az zH rhs a S->Az zH ps b T->Az zH (.zi n::ps) (a++b) (⟨.zi n,k,S.length+1⟩::S++T)
theorem Az.der  (hr:QG N zH) {T:List GF} (h:Az zH l b T):Bb N l b:=by
 induction h with
 |nil=>exact .nil
 |tok _ ih=>exact .tok ih
 |zi hk _ _ ih1 ih2=>exact .zi ((hr _ _).2 ⟨_,hk⟩) ih1 ih2
theorem tI  (hr:QG N zH)  (h:Bb N l b):∃T,Az zH l b T:=by
 induction h with
 |nil=>exact⟨_,.nil⟩
 |tok _ ih=>obtain⟨T,h⟩:=ih;exact⟨_,.tok h⟩
 |zi hm _ _ ih1 ih2=>
  obtain⟨S,h1⟩:=ih1;obtain⟨T,h2⟩:=ih2;obtain⟨k,hk⟩:=(hr _ _).1 hm;exact⟨_,.zi hk h1 h2⟩
section
section
variable {N:NG}
theorem Al.agp  (h:Al N a b c) (t:Nat):Al N a (b++ [t]) (c+N.put t):=by
 have:=h.append (Al.put (N:=N) t .nil)
 rwa [fy,qj]at this
theorem Al.agq  (h:Al N a b c) (t:Nat):Al N (a++ [t]) b (c+N.drop t):=by
 have:=h.append (Al.drop (N:=N) t .nil)
 rwa [fy,qj]at this
theorem Al.aiZ  (h:Al N a b c) (t:Nat):Al N (a++ [t]) (b++ [t]) c:=h.append (Al.keep (N:=N) t .nil)
theorem Al.ai0  (h:Al N a b c) (t u:Nat) (hs:N.swp t u≠0):Al N (a++ [t]) (b++ [u]) (c+N.swp t u):=by
 have:=h.append (Al.swap (N:=N) t u hs .nil)
 rwa [qj]at this
end
end
theorem aJ (w:World) (n₀ fb kb:Nat) (N:NG) (zy:List ByteArray) (pg:List Nm) (yZ:Option Addr) (yT gN yQ:Nat) (k:List Fa) (h:Aw w n₀ fb kb N zy pg yZ yT gN yQ k) (Df:∀n,AQ k n<2 ^21) (hfo:∀n,BC k n<2 ^21)
  (n r:Nat) (nm:Nm) (ps:List Pt) (hn:pg[n]?=some nm) (zT:n<N.nN) (hr:nm.2[r]?=some ps) (hps:BE N ps) (hlen:ps.length<=8):
  Calls Tryz.prog 127 #[ac fb,ab n,ab r] w λe w'=>e=.returned (.int .u32 (E7 k ps (BC k n)))/\Below w.heap.size w w':=by
 have Bz:=h.ln;have hlf:=h.lf;have zW:=h.kn.lt;have Bi:=h.gr.Dm;have f1:=h.f1;have f2:=h.f2;have hgN:=h.gr.hgN;obtain⟨_,v,c1,gR,Pz,rfl,Nz,Fy,hrl⟩:=h.gr.names n nm hn;obtain⟨p,c2,hp⟩:=hrl r ps hr;obtain⟨a,ha⟩:∃a,k[n]?=some a:=⟨_,gE (by rw[h.kn.1];exact zT)⟩;obtain⟨_,_,_,c3⟩:=h.kn.cells ha;have ael:=hfo n;rw[VT ha]at ael ⊢;have CA:Hid (Calls Tryz.prog 165 #[ac fb,p,.int .u32 a.follow] w.drew λe w'=>e=.returned (.int .u32 (E7 k ps a.follow))/\Below w.drew.heap.size w.drew w'):=hid (
  YQ w.drew n₀ fb kb N zy pg yZ yT gN yQ k (h.below (Cb (ah _ _))) Df p ps (hp.below ((Cb (ah _ _)).mono Bz)) hps hlen a.follow ael)
 have hrL:=(zM.1 hr).1;obtain⟨nL,Ry⟩:=qF (nm.2.length);rw[<-Ry]at c1 Fy hrL;obtain⟨nN,hn1⟩:=qF (N.nN);rw[<-hn1]at f1 f2 Bi zT;clear h Df hfo hrl hp hps hlen ael ha hn hr Ry hn1
 go_enter Tryz.func127,Tryz.ntmps127
 go_wp2;refine dy (S:=λw'=>(w'.cell? (af fb 1)=some (ae gN nN yQ)/\w'.cell? (af fb 2)=some (ae kb nN nN)/\w'.cell? (af gN (n*2+1))=some (ae gR nL Pz)/\w'.cell? (af gR r)=some p/\w'.cell? (af kb (n*4+3))=some (.int .u32 a.follow))/\Below w.heap.size w w') yM ⟨⟨f1,f2,c1,c2,c3⟩,Cb (ah _ _)⟩ (λhH=>?_);have k1:fb<w.drew.heap.size:=hlf;have k2:gN<w.drew.heap.size:=by show gN<w.heap.size;omega
 have k3:gR<w.drew.heap.size:=by show gR<w.heap.size;omega
 have k4:kb<w.drew.heap.size:=zW;refine tB 0 hH ?_;refine tB 1 hH ?_;refine tB 2 hH ?_;refine tB 3 hH ?_;refine tB 4 hH ?_;refine tB 5 hH ?_;refine tB 6 hH ?_;refine tB 7 hH ?_;refine tB 8 hH ?_;refine tB 9 hH ?_;refine tB 10 hH ?_;refine tB 11 hH ?_;refine tB 12 hH ?_;refine tB 13 hH ?_;refine tB 14 hH ?_;refine tB 15 hH ?_;refine tB 16 hH ?_;refine tB 17 hH ?_;refine tB 18 hH ?_;refine tB 19 hH ?_;refine tB 20 hH ?_;refine tL ?_;refine tS 21 λK hK=>?_
 refine tM ?_
 go_simp;refine CA.out.mono ?_;rintro e w5 ⟨rfl,zP⟩;try dsimp only
 refine hK.out _ _ ?_ λhH=>?_
 ·exact⟨⟨(zP.cell (by exact k1)).trans hH.1.1,(zP.cell (by exact k1)).trans hH.1.2.1,(zP.cell (by exact k2)).trans hH.1.2.2.1,(zP.cell (by exact k3)).trans hH.1.2.2.2.1,(zP.cell (by exact k4)).trans hH.1.2.2.2.2⟩,hH.2.trans (zP.mono hH.2.size)⟩
 clear hK K;refine tB 22 hH ?_;refine tL ?_;refine bq yM ?_ _;have Rn:=hid hH.2;clear hH zP;go_wp2;go_ret;exact⟨rfl,Rn.out⟩
theorem fQ (w:World) (n₀ fb kb:Nat) (N:NG) (zy:List ByteArray) (pg:List Nm) (yZ:Option Addr) (yT gN yQ:Nat) (k:List Fa) (h:Aw w n₀ fb kb N zy pg yZ yT gN yQ k) (Df:∀n,AQ k n<2 ^21) (v:Value) (ps:List Pt) (hv:D1 w n₀ v ps) (hps:BE N ps) (hlen:ps.length<=8):
  Calls Tryz.prog 131 #[ac fb,v] w λe w'=>e=.returned (.bool (FN (Bh k) ps))/\Below w.heap.size w w':=by
 have CB:=QD w n₀ fb kb N zy pg yZ yT gN yQ k h Df v ps hv hps hlen;rw[(JO k ps 0).1]at CB;have Hl:=hid CB;obtain⟨ad,cap,rfl,_,_⟩:=hv;clear h Df hps hlen CB
 go_enter Tryz.func131,Tryz.ntmps131
 go_wp2_with (go_at_call 162;refine Hl.out.mono ?_;rintro e w2 ⟨rfl,hb2⟩;have HB:=hid hb2;clear hb2)
 go_ret;exact⟨rfl,HB.out⟩
def DR (a b:Nat):Nat:=min (a+b) 939524097
theorem agr {P:Prop} (h:P:=by
  go_wp2;go_ret;exact⟨by first |rfl | (rw[e];rfl) | (refine congrArg (λz=>Ending.returned (ab z)) ?_;first |omega | (unfold DR;omega)),rfl⟩):P:=h
theorem N4 (a b:Nat) (ha:a<=939524097) (hb:b<=939524097) (w:World):Calls Tryz.prog 184 #[ab a,ab b] w λe w'=>e=.returned (ab (DR a b))/\w=w':=by
 go_enter Tryz.func184,Tryz.ntmps184
 rcases jz 939524097 (a+b)with h0 |h0
 ·have h1:¬((a:Int)+(b:Int)<=939524097):=by omega
  have e:DR a b=939524097:=by unfold DR;omega
  exact agr
 ·have h1:(a:Int)+(b:Int)<=939524097:=by omega
  have e:((DR a b:Nat):Int)=(a:Int)+(b:Int):=by unfold DR;omega
  exact agr
def EmC (w:World) (tb:Nat):Prop:=∀m,m<20->∃x:Nat,x<=939524097/\w.cell? (af tb (423+m))=some (ab x)
theorem EmC.below {w w':World}{tb B:Nat} (h:EmC w tb) (hb:Below B w w') (ht:tb<B):EmC w' tb:=λm hm=>by
 obtain⟨x,h1,h2⟩:=h m hm;exact⟨x,h1,(hb.cell (by exact ht)).trans h2⟩
theorem WZ (w:World) (n₀ tb:Nat) (N:NG) (Dx:N.nT<=20) (abK:N.nN<=20) (hn0:n₀<=w.heap.size) (htb:tb<w.heap.size) (hE:EmC w tb) (v:Value) (ps:List Pt) (hv:D1 w n₀ v ps) (hps:BE N ps) (hlen:ps.length<=8):
  Calls Tryz.prog 132 #[ac tb,v] w λe w'=>(∃x:Nat,x<=939524097/\e=.returned (ab x))/\Below w.heap.size w w':=by
 obtain⟨ad,cap,rfl,hcap,hcs⟩:=hv;obtain⟨L,hL⟩:=qF (ps.length);rw[<-hL]at hcap hcs hlen ⊢;have HL:Hid (L=ps.length):=hid hL;have HC:=hid hcs;have HP:Hid (BE N ps):=hid hps;have HE:Hid (EmC w tb):=hid hE;clear hL hcs hps hE
 go_enter Tryz.func132,Tryz.ntmps132
 go_wp2
 go_loopw [5,10] (λs i wr=>∃j f:Nat,j<=L/\i=ab j/\s=ab f/\f<=939524097/\Hid (Below w.heap.size w wr)) (λ_ i _=>L - (intOf i).toNat)
 case atStart=>exact⟨0,1,dh _,rfl,rfl,by omega,ah _ _⟩
 case round=>
  obtain⟨j,f,hj,rfl,rfl,hf,HB⟩:=hrel
  by_cases hlt:j<L
  ·obtain⟨p,hp⟩:∃p,ps[j]?=some p:=⟨_,gE aaF⟩
   obtain⟨g,off,rfl,hg,hcl⟩:=HC.out (by omega);have Wc:=HB.out.size;have Iw:g<wr.heap.size:=by omega
   have p0:=(HB.out.cell (p:=(af g (off+j*2))) Jt).trans (hcl j p hp).1;have p1:=(HB.out.cell (p:=(af g (off+j*2+1))) Jt).trans (hcl j p hp).2;have hpn:AV p<20:=by
    have:=HP.out.at hp;cases p with
    |tok t=>have h1:t<N.nT:=this;show t<20;omega
    |zi n=>have h1:n<N.nN:=this;show n<20;omega
   obtain⟨x,hx,Oa⟩:=HE.out.below HB.out htb (AV p) hpn;obtain⟨pi,hpi⟩:=qE (AW p);obtain⟨pn,ags⟩:=qE (AV p);rw[hpi]at p0;rw[ags]at p1 hpn Oa;have Pg:tb<wr.heap.size:=by omega
   have alI:(pn:Int)<20:=by omega
   clear hcl hp hpi ags;go_wp2;obtain⟨W2,hW2⟩:=qE (wr.alloc (.cells #[.bool pi,ab pn] 235));have d1:W2.cell? (af wr.heap.size 1)=some (ab pn):=by rw[<-hW2];exact BK wr _ _ 1
   have d2:W2.cell? (af tb (423+pn))=some (ab x):=by rw[<-hW2];exact A6 _ Oa
   have acP:Below w.heap.size w W2:=by rw[<-hW2];exact Aj HB.out
   have q1:wr.heap.size<W2.drew.heap.size:=bu _ _ d1;have q2:tb<W2.drew.heap.size:=bu _ _ d2;rw[hW2];clear hW2 p0 p1 Oa;refine dy (S:=λw'=>(w'.cell? (af wr.heap.size 1)=some (ab pn)/\w'.cell? (af tb (423+pn))=some (ab x))/\Below w.heap.size w w') yM ⟨⟨d1,d2⟩,Cb acP⟩ (λhH=>?_);refine tB 0 hH ?_;refine tB 1 hH ?_;refine tB 2 hH ?_;refine tB 3 hH ?_;refine tB 4 hH ?_;refine tB 5 hH ?_;refine tB 6 hH ?_;refine tB 7 hH ?_;refine tL ?_;refine tS 8 λK hK=>?_
   refine tM ?_
   go_simp;refine(N4 f x hf hx _).mono ?_;rintro e w5 ⟨rfl,rfl⟩;try dsimp only
   refine hK.out _ _ ?_ λhH=>?_
   ·exact hH
   clear hK K;refine tB 9 hH ?_;refine tL ?_;refine bq yM ?_ _;have Rn:=hid hH.2;have haN:DR f x<=939524097:=by unfold DR;omega
   obtain⟨y,hy⟩:=qE (DR f x);rw[hy]at haN ⊢;clear hH d1 d2 hy;go_wp2
   go_roundw
   case rel=>exact⟨j+1,y,by omega,by go_num,rfl,haN,Rn⟩
   case measure=>simp[intOf];omega
  ·go_wp2
   go_ret;exact⟨⟨f,hf,rfl⟩,HB.out⟩
end Go.Proofs.YtjjggdcnpndgjaaGreatDoor
