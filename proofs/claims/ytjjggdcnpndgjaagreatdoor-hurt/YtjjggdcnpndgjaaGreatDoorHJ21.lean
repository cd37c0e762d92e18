import Derived.Test.YtjjggdcnpndgjaaGreatDoorHJ13
set_option linter.unusedSimpArgs false
set_option maxHeartbeats 2000000
set_option maxRecDepth 100000
namespace Go.Proofs.YtjjggdcnpndgjaaGreatDoor
abbrev uf:=@List.take_zero
abbrev yC:=@List.drop_left
open Go.RowKit
variable {N:NG}{a b row:List Nat}{c i j k:Nat}{l:List Pt}{yN:Nat->Nat->Option (List Pt)}{tl:Nat->Option (List Pt)}
inductive zP (N:NG):List Pt->List Nat->Prop
 |nil:zP N [] []
 |tok {t:Nat}{ps:List Pt}{r:List Nat}:zP N ps r->zP N (.tok t::ps) (t::r)
 |yB {n:Nat}{rhs ps:List Pt}{a b:List Nat}:(n,rhs)∈N.rules->zP N rhs a->zP N ps b->zP N (.yB n::ps) (a++b)
inductive Al (N:NG):List Nat->List Nat->Nat->Prop
 |nil:Al N [] [] 0
 |put {a b:List Nat}{c:Nat} (t:Nat):Al N a b c->Al N a (t::b) (N.put t+c)
 |drop {a b:List Nat}{c:Nat} (t:Nat):Al N a b c->Al N (t::a) b (N.drop t+c)
 |keep {a b:List Nat}{c:Nat} (t:Nat):Al N a b c->Al N (t::a) (t::b) c
 |swap {a b:List Nat}{c:Nat} (t u:Nat):N.swp t u≠0->Al N a b c->Al N (t::a) (u::b) (N.swp t u+c)
def AU (N:NG):List Nat->Nat
 | []=>0
 |t::l=>N.drop t+AU N l
theorem OS (N:NG) (a b:List Nat):AU N (a++b)=AU N a+AU N b:=by
 induction a with
 |nil=>simp[AU]
 |cons t l ih=>simp[AU,ih];omega
theorem Al.refl (N:NG):∀l:List Nat,Al N l l 0
 | []=>.nil
 |t::l=>.keep t (Al.refl N l)
theorem Al.zk {N:NG}{a b:List Nat}{c:Nat} (h:Al N a b c):∀d:List Nat,Al N (d++a) b (AU N d+c)
 | []=>by simpa[AU] using h
 |t::d=>by
  have:=Al.drop t (Al.zk h d);rw[<-tu]at this;exact this
theorem Al.append {a' b':List Nat}{c':Nat} (h:Al N a b c) (h':Al N a' b' c'):Al N (a++a') (b++b') (c+c'):=by
 induction h with
 |nil=>simpa using h'
 |put t _ ih=>rw[ig,tu];exact .put t ih
 |drop t _ ih=>rw[ig,tu];exact .drop t ih
 |keep t _ ih=>exact .keep t ih
 |swap t u hs _ ih=>rw[ig,ig,tu];exact .swap t u hs ih
theorem wD  (h:Al N a b c):b=[]->c=AU N a:=by
 induction h with
 |nil=>intro _;rfl
 |put t _ _=>intro h;cases h
 |drop t _ ih=>intro h;rw[ih h];rfl
 |keep t _ _=>intro h;cases h
 |swap t u _ _ _=>intro h;cases h
def JS (N:NG) (x t:Nat):Option Nat:=if x=t then some 0 else if N.swp x t=0 then none else some (N.swp x t)
theorem wL {r:List Nat} (h:Al N a r c):∀{t:Nat}{b:List Nat},r=t::b->
  (∃c',Al N a b c'/\N.put t+c'<=c)\/(∃d x a' c' k,a=d++x::a'/\Al N a' b c'/\JS N x t=some k/\AU N d+k+c'<=c):=by
 induction h with
 |nil=>intro _ _ h;cases h
 | @put a b c u hb ih=>
  intro t b' h;injection h with h1 h2
  subst h1;subst h2;exact .inl ⟨_,hb,yF _⟩
 | @drop a b c u hb ih=>
  intro t b' h
  rcases ih h with⟨c',h1,h2⟩ | ⟨d,x,a',c',k,h1,h2,h3,h4⟩
  ·exact .inl ⟨_,.drop u h1,by omega⟩
  ·refine .inr ⟨u::d,x,a',c',k,by rw[h1];rfl,h2,h3,?_⟩
   simp only[AU];omega
 | @keep a b c u hb ih=>
  intro t b' h;injection h with h1 h2
  subst h1;subst h2;exact .inr ⟨[],u,a,c,0,rfl,hb,by simp[JS],by simp[AU]⟩
 | @swap a b c u v hs hb ih=>
  intro t b' h;injection h with h1 h2
  subst h1;subst h2
  by_cases he:u=v
  ·subst he
   exact .inr ⟨[],u,a,c,0,rfl,hb,by simp[JS],by simp[AU]⟩
  ·exact .inr ⟨[],u,a,c,N.swp u v,rfl,hb,by simp[JS,he,hs],by simp[AU]⟩
theorem mR {r:List Nat} (h:Al N a r c):∀(x y:List Nat),r=x++y->∃a1 a2 c1 c2,a=a1++a2/\Al N a1 x c1/\Al N a2 y c2/\c1+c2<=c:=by
 induction h with
 |nil=>
  intro x y h;obtain⟨rfl,rfl⟩:=List.append_eq_nil_iff.1 h.symm;exact⟨[],[],0,0,rfl,.nil,.nil,yF _⟩
 | @put a b c u hb ih=>
  intro x y h;cases x with
  |nil=>
   simp only[eu]at h;subst h;exact⟨[],a,0,_,rfl,.nil,Al.put u hb,by omega⟩
  |cons x0 x=>
   injection h with h1 h2
   subst h1;obtain⟨a1,a2,c1,c2,e,k1,k2,k3⟩:=ih x y h2;exact⟨a1,a2,_,c2,e,.put u k1,k2,by omega⟩
 | @drop a b c u hb ih=>
  intro x y h;obtain⟨a1,a2,c1,c2,e,k1,k2,k3⟩:=ih x y h;exact⟨u::a1,a2,_,c2,by rw[e];rfl,.drop u k1,k2,by omega⟩
 | @keep a b c u hb ih=>
  intro x y h;cases x with
  |nil=>
   simp only[eu]at h;subst h;exact⟨[],u::a,0,_,rfl,.nil,Al.keep u hb,by omega⟩
  |cons x0 x=>
   injection h with h1 h2
   subst h1;obtain⟨a1,a2,c1,c2,e,k1,k2,k3⟩:=ih x y h2;exact⟨u::a1,a2,c1,c2,by rw[e];rfl,.keep u k1,k2,by omega⟩
 | @swap a b c u v hs hb ih=>
  intro x y h;cases x with
  |nil=>
   simp only[eu]at h;subst h;exact⟨[],u::a,0,_,rfl,.nil,Al.swap u v hs hb,by omega⟩
  |cons x0 x=>
   injection h with h1 h2
   subst h1;obtain⟨a1,a2,c1,c2,e,k1,k2,k3⟩:=ih x y h2;exact⟨u::a1,a2,_,c2,by rw[e];rfl,.swap u v hs k1,k2,by omega⟩
structure Pz (N:NG) (tl:Nat->Option (List Pt)) (hd:Nat->Nat->Prop):Prop where
 next:∀i p ps,tl i=some (p::ps)->tl (i+1)=some ps
 head:∀n rhs,(n,rhs)∈N.rules->∃i,hd n i/\tl i=some rhs
 rule:∀n i,hd n i->∃rhs,tl i=some rhs/\(n,rhs)∈N.rules
structure gO (N:NG) (tl:Nat->Option (List Pt)) (hd:Nat->Nat->Prop) (row:List Nat) (Wn Wp:Nat->Nat->Nat->Nat):Prop where
 nil:∀q i,tl q=some []->i<=row.length->Wp q i i=0
 put:∀q t ps i k,tl q=some (.tok t::ps)->i<=k->k<=row.length->Wp q i k<=N.put t+Wp (q+1) i k
 keep:∀q t ps i j k x c,tl q=some (.tok t::ps)->i<=j->j<k->k<=row.length->row[j]?=some x->JS N x t=some c->Wp q i k<=AU N ((row.drop i).take (j - i))+c+Wp (q+1) (j+1) k
 yB:∀q n ps i j k,tl q=some (.yB n::ps)->i<=j->j<=k->k<=row.length->Wp q i k<=Wn n i j+Wp (q+1) j k
 rule:∀n q i j,hd n q->i<=j->j<=row.length->Wn n i j<=Wp q i j
theorem X1 {hd:Nat->Nat->Prop} (hT:Pz N tl hd) {Wn Wp:Nat->Nat->Nat->Nat} (hW:gO N tl hd row Wn Wp) {ps:List Pt} (h:zP N ps b):
  ∀(q:Nat) (p a s:List Nat) (c:Nat),tl q=some ps->row=p++a++s->Al N a b c->∃a1 d,a=a1++d/\Wp q p.length (p.length+a1.length)+AU N d<=c:=by
 induction h with
 |nil=>
  intro q p a s c hq hr ha;refine⟨[],a,rfl,?_⟩;rw[wD ha rfl];have:=hW.nil q p.length hq (by rw[hr];simp);simp only[iw,ug];omega
 | @tok t ps b hb ih=>
  intro q p a s c hq hr ha
  rcases wL ha rfl with⟨c',h1,h2⟩ | ⟨d,x,a',c',k,h1,h2,h3,h4⟩
  ·obtain⟨a1,dd,e,h5⟩:=ih (q+1) p a s c' (hT.next _ _ _ hq) hr h1
   refine⟨a1,dd,e,?_⟩;have:=hW.put q t ps p.length (p.length+a1.length) hq (by omega) (by rw[hr,e];simp <;> omega);omega
  ·have hr':row=(p++d++ [x])++a'++s:=by rw[hr,h1];simp
   obtain⟨a1,dd,e,h5⟩:=ih (q+1) (p++d++ [x]) a' s c' (hT.next _ _ _ hq) hr' h2;refine⟨d++x::a1,dd,by rw[h1,e];simp,?_⟩;have hlen:(p++d++ [x]).length=p.length+d.length+1:=by simp;omega
   rw[hlen]at h5;have aiq:row[p.length+d.length]?=some x:=by
    rw[hr',aA,aL (by rw[hlen];omega),zQ (by simp)];simp
   have aao:(row.drop p.length).take (p.length+d.length - p.length)=d:=by
    rw[hr,h1,aA,yC];rw[show p.length+d.length - p.length=d.length by omega];rw[aA,List.take_left]
   have:=hW.keep q t ps p.length (p.length+d.length) (p.length+(d++x::a1).length) x k hq (by omega) (by simp) (by rw[hr',e];simp <;> omega) aiq h3;rw[aao]at this;have e2:p.length+(d++x::a1).length=p.length+d.length+1+a1.length:=by simp;omega
   rw[e2]at this ⊢;omega
 | @yB n rhs ps x y hmem hx hy ih1 ih2=>
  intro q p a s c hq hr ha;obtain⟨b1,b2,c1,c2,e,k1,k2,k3⟩:=mR ha x y rfl;obtain⟨r,hr1,hr2⟩:=hT.head n rhs hmem;obtain⟨a1,d1,e1,h1⟩:=ih1 r p b1 (b2++s) c1 hr2 (by rw[hr,e];simp) k1;have hr':row=(p++a1)++(d1++b2)++s:=by rw[hr,e,e1];simp
  obtain⟨a2,d2,e2,h2⟩:=ih2 (q+1) (p++a1) (d1++b2) s (AU N d1+c2) (hT.next _ _ _ hq) hr' (k2.zk d1);refine⟨a1++a2,d2,by rw[e,e1,aA,e2,aA],?_⟩;have hle:p.length+a1.length+a2.length<=row.length:=by rw[hr',e2];simp <;> omega
  have h3:=hW.yB q n ps p.length (p.length+a1.length) (p.length+a1.length+a2.length) hq (by omega) (by omega) hle;have h4:=hW.rule n r p.length (p.length+a1.length) hr1 (by omega) (by omega);rw[lA]at h2;rw[lA,<-tu];omega
structure ze where
 loc:Nat
 kind:Nat
 old:Nat
 new:Nat
 cost:Nat
inductive za (N:NG) (row:List Nat):Nat->List ze->Nat->List Nat->Nat->Prop
 |done (i:Nat):za N row i [] i [] 0
 |keep {i x j:Nat}{E:List ze}{b:List Nat}{c:Nat}:row[i]?=some x->za N row (i+1) E j b c->za N row i E j (x::b) c
 |put {i t j:Nat}{E:List ze}{b:List Nat}{c:Nat}:t<N.nT->za N row i E j b c->za N row i (⟨i,1,N.nT,t,N.put t⟩::E) j (t::b) (N.put t+c)
 |drop {i x j:Nat}{E:List ze}{b:List Nat}{c:Nat}:row[i]?=some x->za N row (i+1) E j b c->za N row i (⟨i,2,x,N.nT,N.drop x⟩::E) j b (N.drop x+c)
 |swap {i x u j:Nat}{E:List ze}{b:List Nat}{c:Nat}:row[i]?=some x->u<N.nT->x≠u->N.swp x u≠0->za N row (i+1) E j b c->za N row i (⟨i,3,x,u,N.swp x u⟩::E) j (u::b) (N.swp x u+c)
theorem za.le {E:List ze} (h:za N row i E j b c):i<=j:=by
 induction h with
 |done i=>omega
 |keep _ _ ih=>omega
 |put _ _ ih=>omega
 |drop _ _ ih=>omega
 |swap _ _ _ _ _ ih=>omega
theorem za.append {E F:List ze}{d:List Nat}{e:Nat} (h:za N row i E j b c) (h':za N row j F k d e):za N row i (E++F) k (b++d) (c+e):=by
 induction h with
 |done i=>simpa using h'
 |keep hx _ ih=>exact .keep hx (ih h')
 |put ht _ ih=>rw[tu];exact .put ht (ih h')
 |drop hx _ ih=>rw[tu];exact .drop hx (ih h')
 |swap hx hu hn hs _ ih=>rw[tu];exact .swap hx hu hn hs (ih h')
theorem za.keeps {N:NG}{row:List Nat}:∀(n i:Nat),i+n<=row.length->za N row i [] (i+n) ((row.drop i).take n) 0
 |0,i,_=>by simpa using za.done i
 |n+1,i,h=>by
  have hi:i<row.length:=by omega
  have h1:=za.keeps (N:=N) (row:=row) n (i+1) (by omega);have e:(row.drop i).take (n+1)=row[i]::(row.drop (i+1)).take n:=by
   rw[gm hi,qw]
  rw[e,show i+(n+1)=i+1+n by omega];exact .keep (gE hi) h1
def DP (N:NG) (row:List Nat) (i n:Nat):List ze:=(List.range n).map λk=>⟨i+k,2,row.getD (i+k) 0,N.nT,N.drop (row.getD (i+k) 0)⟩
theorem za.zk {N:NG}{row:List Nat}:∀(n i:Nat),i+n<=row.length->za N row i (DP N row i n) (i+n) [] (AU N ((row.drop i).take n))
 |0,i,_=>by simpa[DP,AU] using za.done i
 |n+1,i,h=>by
  have hi:i<row.length:=by omega
  have h1:=za.zk (N:=N) (row:=row) n (i+1) (by omega);have e:(row.drop i).take (n+1)=row[i]::(row.drop (i+1)).take n:=by
   rw[gm hi,qw]
  have e2:DP N row i (n+1)=⟨i,2,row[i],N.nT,N.drop row[i]⟩::DP N row (i+1) n:=by
   unfold DP;rw[List.range_succ_eq_map,jv,pz];have hg:row.getD (i+0) 0=row[i]:=by simp[hi]
   rw[hg,ug]
   congr 1
   apply lz;intro k _;simp only[Function.comp,show i+k.succ=i+1+k by omega]
  rw[e,e2,show i+(n+1)=i+1+n by omega];exact .drop (gE hi) h1
theorem za.al {E:List ze} (h:za N row i E j b c) (hj:j<=row.length):Al N ((row.drop i).take (j - i)) b c:=by
 have cut:∀{i x j:Nat},row[i]?=some x->i+1<=j->(row.drop i).take (j - i)=x::(row.drop (i+1)).take (j - (i+1)):=λ{i x j} hx hl=>by
  obtain⟨hi,e⟩:=yS.1 hx;rw[gm hi,show j - i=(j - (i+1))+1 by omega,qw,e]
 induction h with
 |done i=>rw[kq,uf];exact .nil
 |keep hx h ih=>rw[cut hx h.le];exact .keep _ (ih hj)
 |put ht h ih=>exact .put _ (ih hj)
 |drop hx h ih=>rw[cut hx h.le];exact .drop _ (ih hj)
 |swap hx hu hn hs h ih=>rw[cut hx h.le];exact .swap _ _ hs (ih hj)
theorem za.free  (hN:N.Ok)  (hr:∀x∈row,x<N.nT) {E:List ze} (h:za N row i E j b c):c=0↔E=[]:=by
 induction h with
 |done i=>simp
 |keep _ _ ih=>exact ih
 | @put i t _ _ _ _ ht _ _=>have:=hN.Tm t ht;constructor <;> intro h;omega;cases h
 | @drop i x _ _ _ _ hx _ _=>have:=hN.aai x (hr x (mG hx));constructor <;> intro h;omega;cases h
 |swap _ _ _ hs _ _=>constructor <;> intro h;omega;cases h
theorem za.sum {E:List ze} (h:za N row i E j b c):(E.map (·.cost)).sum=c:=by
 induction h with
 |done i=>rfl
 |keep _ _ ih=>exact ih
 |put _ _ ih=>simp[ih]
 |drop _ _ ih=>simp[ih]
 |swap _ _ _ _ _ ih=>simp[ih]
theorem za.same {E:List ze} (h:za N row i E j b c) (hj:j<=row.length):E=[]->b=(row.drop i).take (j - i):=by
 have cut:∀{i x j:Nat},row[i]?=some x->i+1<=j->(row.drop i).take (j - i)=x::(row.drop (i+1)).take (j - (i+1)):=λ{i x j} hx hl=>by
  obtain⟨hi,e⟩:=yS.1 hx;rw[gm hi,show j - i=(j - (i+1))+1 by omega,qw,e]
 induction h with
 |done i=>intro _;rw[kq,uf]
 |keep hx h ih=>intro e;rw[cut hx h.le,<-ih hj e]
 |put _ _ _=>intro e;cases e
 |drop _ _ _=>intro e;cases e
 |swap _ _ _ _ _ _=>intro e;cases e
section
abbrev Wt:=Nat × Nat
def AC:Nat:=1048576
def FZ:Nat:=939524097
def zq (a b:Wt):Prop:=a.1<b.1\/a.1=b.1/\a.2<=b.2
def GD (a b:Wt):Wt:=(a.1+b.1,min (a.2+b.2) FZ)
def named (a:Wt):Wt:=GD a (0,1)
theorem FP (a:Wt):zq a a:=.inr ⟨rfl,yF _⟩
theorem GI {a b c:Wt} (h:zq a b) (k:zq b c):zq a c:=by unfold zq at*;omega
theorem cW {a b:Wt} (h:zq a b) (k:zq b a):a=b:=by
 unfold zq at*;have h1:a.1=b.1:=by omega
 have h2:a.2=b.2:=by omega
 exact vv h1 h2
theorem K9 {a b:Wt} (h:zq a b):a.1<=b.1:=by unfold zq at h;omega
theorem XZ {a b c d:Wt} (h:zq a b) (k:zq c d):zq (GD a c) (GD b d):=by
 unfold zq GD at*;simp only
 by_cases h1:a.1+c.1<b.1+d.1
 ·exact .inl h1
 ·have e1:a.1=b.1:=by omega
  have e2:c.1=d.1:=by omega
  exact .inr ⟨by omega,by omega⟩
def FH (N:NG) (x t:Nat):Nat:=(JS N x t).getD AC
def E2 (N:NG) (row:List Nat) (i j:Nat):Nat:=AU N ((row.drop i).take (j - i))
def FR (N:NG) (row:List Nat) (t i k:Nat):Wt:=if i=k then(N.put t,1)else(E2 N row i (k - 1)+FH N (row.getD (k - 1) 0) t,1)
def CZ (N:NG) (row:List Nat) (cn:Nat->Nat->Nat->Wt):Pt->Nat->Nat->Wt
 | .tok t,i,k=>FR N row t i k
 | .yB n,i,k=>cn n i k
def D3 (N:NG) (row:List Nat) (cn ct:Nat->Nat->Nat->Wt) (p:Pt) (q i j k:Nat):Wt:=GD (CZ N row cn p i j) (ct (q+1) j k)
structure EH (N:NG) (tl:Nat->Option (List Pt)) (hd:Nat->Nat->Prop) (row:List Nat) (cn ct:Nat->Nat->Nat->Wt) (i k:Nat):Prop where
 cut:∀q p ps j,tl q=some (p::ps)->i<=j->j<=k->zq (ct q i k) (D3 N row cn ct p q i j k)
 Hr:∀q,tl q=some []->ct q i k=if i=k then(0,0)else(AC,0)
 yB:∀n q,hd n q->zq (cn n i k) (named (ct q i k))
 Mg:∀q p ps,tl q=some (p::ps)->ct q i k=(AC,0)\/∃j,i<=j/\j<=k/\ct q i k=D3 N row cn ct p q i j k
 Nv:∀n,n<N.nN->cn n i k=(AC,0)\/∃q,hd n q/\cn n i k=named (ct q i k)
theorem PN  (h1:i<k) (h2:k<=row.length):∃x,row[k - 1]?=some x/\row.getD (k - 1) 0=x:=by
 refine⟨row[k - 1],gE (by omega),?_⟩;rw[zh,gE (by omega)];rfl
theorem MD {hd:Nat->Nat->Prop}{cn ct:Nat->Nat->Nat->Wt} (h:∀i k,i<=k->k<=row.length->EH N tl hd row cn ct i k):
  gO N tl hd row (λn i k=>(cn n i k).1) (λq i k=>(ct q i k).1) where
 nil:=λq i hq hi=>by
  have:=(h i i (yF _) hi).Hr q hq;rw[aq rfl]at this;simp only[this]
 put:=λq t ps i k hq hik hk=>by
  have h1:=K9 ((h i k hik hk).cut q _ ps i hq (yF _) hik);simp only[D3,GD,CZ,FR,aq]at h1;exact h1
 keep:=λq t ps i j k x c hq hij hjk hk hx hc=>by
  have h1:=K9 ((h i k (by omega) hk).cut q _ ps (j+1) hq (by omega) (by omega));obtain⟨y,hy,e⟩:=PN (i:=j) (k:=j+1) (by omega) (by omega:j+1<=row.length);rw[show j+1 - 1=j by omega]at hy e;rw[hx]at hy;obtain rfl:x=y:=by injection hy
  simp only[D3,GD,CZ,FR]at h1;rw[au (by omega),show j+1 - 1=j by omega,e]at h1;simp only[E2,FH,hc,jm]at h1;exact h1
 yB:=λq n ps i j k hq hij hjk hk=>by
  exact K9 ((h i k (by omega) hk).cut q _ ps j hq hij hjk)
 rule:=λn q i j hd hij hj=>by
  have:=K9 ((h i j hij hj).yB n q hd);simpa[named,GD] using this
def Xb (N:NG):Prop:=∀r∈N.rules,∃t ps,r.2=Pt.tok t::ps
section
variable {N:NG}{tl:Nat->Option (List Pt)}{hd:Nat->Nat->Prop}{row:List Nat}{cn ct:Nat->Nat->Nat->Wt}
theorem sL (hN:N.Ok) (hG:Xb N) (hT:Pz N tl hd)  (h:EH N tl hd row cn ct i i) {n:Nat} (hn:n<N.nN):1<=(cn n i i).1:=by
 rcases h.Nv n hn with e | ⟨q,hq,e⟩
 ·rw[e];unfold AC;omega
 ·rw[e]
  obtain⟨rhs,h1,h2⟩:=hT.rule n q hq;obtain⟨t,ps,h3⟩:=hG _ h2;simp only at h3;subst h3;have ht:=hN.Tm t (hN.pt _ h2 t (eo ..))
  rcases h.Mg q _ _ h1 with e2 | ⟨j,h4,h5,e2⟩
  ·rw[e2];simp only[named,GD];unfold AC;omega
  ·obtain rfl:j=i:=by omega
   rw[e2];simp only[named,GD,D3,CZ,FR,aq];omega
def LP (tl:Nat->Option (List Pt)) (q i k c:Nat):Nat:=2*((k - i)*(2*AC)+c)+match tl q with
 |some (.yB _::_)=>1
 |_=>0
theorem jN {q q' i' k' c':Nat} (hc':c'<2*AC) (h:k' - i'<k - i\/k' - i'=k - i/\c'<c):LP tl q' i' k' c'<LP tl q i k c:=by
 unfold LP;have h1:(match tl q' with |some (.yB _::_)=>1 |_=>0:Nat)<=1:=by split <;> omega
 have h2:(k' - i')*(2*AC)+c'< (k - i)*(2*AC)+c:=by
  rcases h with h | ⟨h,h'⟩
  ·have h3:(k' - i'+1)*(2*AC)<=(k - i)*(2*AC):=oh _ h
   rw[Nat.add_mul,Nat.one_mul]at h3;omega
  ·rw[h];omega
 omega
end
end
section
section
variable {N:NG}{tl:Nat->Option (List Pt)}{hd:Nat->Nat->Prop}{row:List Nat}{cn ct:Nat->Nat->Nat->Wt}
theorem YA (hN:N.Ok) {t:Nat} (ht:t<N.nT) (h:i=j):1<=(FR N row t i j).1:=by
 unfold FR;rw[aq h];exact hN.Tm t ht
theorem TE (hN:N.Ok) (hG:Xb N) (hT:Pz N tl hd) (hW:∀i k,i<=k->k<=row.length->EH N tl hd row cn ct i k)
  {q i k j:Nat}{p:Pt}{ps:List Pt} (hq:tl q=some (p::ps)) (hp:∀t,p=.tok t->t<N.nT) (hp':∀n,p=.yB n->n<N.nN) (hlt:(ct q i k).1<AC) (hij:i<=j) (hjk:j<=k) (hk:k<=row.length) (e:ct q i k=D3 N row cn ct p q i j k):
  (CZ N row cn p i j).1+(ct (q+1) j k).1=(ct q i k).1/\LP tl (q+1) j k (ct (q+1) j k).1<LP tl q i k (ct q i k).1/\
   ∀n,p=.yB n->∀r,hd n r->cn n i j=named (ct r i j)->(ct r i j).1=(cn n i j).1/\LP tl r i j (ct r i j).1<LP tl q i k (ct q i k).1:=by
 have h1:(CZ N row cn p i j).1+(ct (q+1) j k).1=(ct q i k).1:=by rw[e];rfl
 refine⟨h1,?_,λn hn r hr hc=>?_⟩
 ·refine jN (by unfold AC at*;omega) ?_
  by_cases h2:i=j
  ·refine .inr ⟨by omega,?_⟩
   have:1<=(CZ N row cn p i j).1:=by
    cases p with
    |tok t=>exact YA hN (hp t rfl) h2
    |yB n=>subst h2;exact sL hN hG hT (hW i i (yF _) (by omega)) (hp' n rfl)
   omega
  ·exact .inl (by omega)
 ·subst hn
  obtain⟨rhs,h3,h4⟩:=hT.rule n r hr;obtain⟨t,ps',h5⟩:=hG _ h4;simp only at h5;subst h5;have h6:(ct r i j).1=(cn n i j).1:=by rw[hc];simp[named,GD]
  refine⟨h6,?_⟩;have h7:(CZ N row cn (.yB n) i j).1=(cn n i j).1:=rfl;unfold LP;rw[hq,h3];simp only;have h8:(ct r i j).1<=(ct q i k).1:=by omega
  have h9:(j - i)*(2*AC)<=(k - i)*(2*AC):=oh _ (by omega);omega
theorem afL {P:Prop} (h:P:=by
  have h1:=(hW i k hik hk).Hr q hq
  by_cases h2:i=k
  ·subst h2;rw[kq,uf];exact .nil
  ·rw[au h2]at h1;rw[h1]at h0;unfold AC at h0;omega):P:=h
theorem pR (hN:N.Ok) (hG:Xb N) (hT:Pz N tl hd) (Ae:∀q l,tl q=some l->(∀t,Pt.tok t∈l->t<N.nT)/\∀n,Pt.yB n∈l->n<N.nN) (hr:∀x∈row,x<N.nT) (hW:∀i k,i<=k->k<=row.length->EH N tl hd row cn ct i k):
  ∀(m q i k:Nat) (l:List Pt),LP tl q i k (ct q i k).1<=m->tl q=some l->i<=k->k<=row.length->(ct q i k).1=0->zP N l ((row.drop i).take (k - i)):=by
 intro m
 induction m with
 |zero=>
  intro q i k l hm hq hik hk h0;cases l with
  |nil=>
   exact afL
  |cons p ps=>
   rcases(hW i k hik hk).Mg q p ps hq with e | ⟨j,h1,h2,e⟩
   ·rw[e]at h0;unfold AC at h0;omega
   ·have:=(TE hN hG hT hW hq (λt e=>(Ae q _ hq).1 t abK) (λn e=>(Ae q _ hq).2 n abK) (by rw[h0];unfold AC;omega) h1 h2 hk e).2.1
    omega
 |succ m ih=>
  intro q i k l hm hq hik hk h0;cases l with
  |nil=>
   exact afL
  |cons p ps=>
   rcases(hW i k hik hk).Mg q p ps hq with e | ⟨j,h1,h2,e⟩
   ·rw[e]at h0;unfold AC at h0;omega
   ·obtain⟨s1,s2,s3⟩:=TE hN hG hT hW hq (λt e=>(Ae q _ hq).1 t abK) (λn e=>(Ae q _ hq).2 n abK) (by rw[h0];unfold AC;omega) h1 h2 hk e
    have Gh:=ih (q+1) j k ps (by omega) (hT.next _ _ _ hq) h2 hk (by omega);have afM:(row.drop i).take (k - i)=(row.drop i).take (j - i)++(row.drop j).take (k - j):=by
     have h3:k - i=(j - i)+(k - j):=by omega
     rw[h3,List.take_add,List.drop_drop,show i+(j - i)=j by omega]
    cases p with
    |tok t=>
     have ht:t<N.nT:=(Ae q _ hq).1 t (eo ..);have h4:(FR N row t i j).1=0:=by
      have:(CZ N row cn (.tok t) i j).1=(FR N row t i j).1:=rfl;omega
     have hij:i<j:=by
      rcases jw i j with h |h
      ·exact h
      ·have:=YA (row:=row) hN ht (show i=j by omega);omega
     obtain⟨x,hx,hx'⟩:=PN hij (by omega:j<=row.length);unfold FR at h4;rw[au (by omega),hx']at h4;simp only at h4;have h5:E2 N row i (j - 1)=0:=by omega
     have h6:FH N x t=0:=by omega
     have h7:x=t:=by
      unfold FH JS at h6
      by_cases h8:x=t
      ·exact h8
      ·rw[au h8]at h6
       by_cases h9:N.swp x t=0
       ·rw[aq h9]at h6;simp[AC]at h6
       ·rw[au h9]at h6;simp at h6;omega
     subst h7;have h8:j=i+1:=by
      rcases jw (i+1) j with h |h
      ·unfold E2 at h5
       rw[gm (by omega:i<row.length),show j - 1 - i=(j - 2 - i)+1 by omega,qw]at h5;simp only[AU]at h5;have:=hN.aai _ (hr _ (oc (by omega:i<row.length)));omega
      ·omega
     subst h8;rw[show i+1 - 1=i by omega]at hx;have h9:(row.drop i).take (i+1 - i)=[x]:=by
      obtain⟨hi,e⟩:=yS.1 hx;rw[show i+1 - i=1 by omega,gm hi,e];simp
     rw[afM,h9];exact .tok Gh
    |yB n=>
     have hn:n<N.nN:=(Ae q _ hq).2 n (eo ..);have h7:(CZ N row cn (.yB n) i j).1=(cn n i j).1:=rfl
     rcases(hW i j h1 (by omega)).Nv n hn with e2 | ⟨r,hr2,e2⟩
     ·rw[e2]at h7;simp only at h7;unfold AC at h7;omega
     ·obtain⟨h8,h9⟩:=s3 n rfl r hr2 e2
      obtain⟨rhs,h10,h11⟩:=hT.rule n r hr2;have:=ih r i j rhs (by omega) h10 h1 (by omega) (by omega);rw[afM];exact .yB h11 this Gh
end
end
section
theorem WQ {n:Nat} (h:zP N [.yB n] b):∃rhs,(n,rhs)∈N.rules/\zP N rhs b:=by
 cases h with
 |yB hm ha hb=>
  cases hb;rw[iq];exact⟨_,hm,ha⟩
theorem XO {d:List Nat}:E2 N (a++d) a.length (a++d).length=AU N d:=by
 unfold E2;rw[yC,lA,show a.length+d.length - a.length=d.length by omega,mj]
section
variable {N:NG}{tl:Nat->Option (List Pt)}{hd:Nat->Nat->Prop}{row:List Nat}{cn ct:Nat->Nat->Nat->Wt}
theorem dM (hT:Pz N tl hd) (hW:∀i k,i<=k->k<=row.length->EH N tl hd row cn ct i k) {e:Nat}
  (he:∀a,a<=row.length->(cn 0 0 e).1+E2 N row e row.length<=(cn 0 0 a).1+E2 N row a row.length) {b:List Nat}{c:Nat} (hb:zP N [.yB 0] b) (ha:Al N row b c):
  (cn 0 0 e).1+E2 N row e row.length<=c:=by
 obtain⟨rhs,h1,h2⟩:=WQ hb;obtain⟨q,h3,h4⟩:=hT.head 0 rhs h1;obtain⟨a1,d,h5,h6⟩:=X1 hT (MD hW) h2 q [] row [] c h4 (by simp) ha;have h7:=he a1.length (by rw[h5];simp);have h8:=(MD hW).rule 0 q 0 a1.length h3 (by omega) (by rw[h5];simp);simp only[iw,jl]at h6;have h9:E2 N row a1.length row.length=AU N d:=by
  have:=XO (N:=N) (a:=a1) (d:=d);rw[<-h5]at this;exact this
 have h8:(cn 0 0 a1.length).1<=(ct q 0 a1.length).1:=h8;omega
def QU (N:NG):List Nat->Nat
 | []=>0
 |t::l=>N.put t+QU N l
theorem eW (N:NG):∀b:List Nat,Al N [] b (QU N b)
 | []=>.nil
 |t::b=>.put t (eW N b)
theorem tI (N:NG) (row b:List Nat):Al N row b (AU N row+QU N b):=by
 have:=(eW N b).zk row;rw[iq]at this;exact this
theorem PY {N:NG} (hN:N.Ok):∀{row:List Nat},(∀x∈row,x<N.nT)->AU N row<=99*row.length
 | [],_=>bu _
 |t::l,h=>by
  have h1:=hN.abY t (h t (eo ..));have h2:=PY hN (row:=l) (λx hx=>h x (fj _ hx));simp only[AU,lC];omega
end
end
def Tx (yN:Nat->Nat->Option (List Pt)):Prop:=∀n k rhs,yN n k=some rhs->∃rest,rhs=Pt.tok k::rest
def Q2 (N:NG) (yN:Nat->Nat->Option (List Pt)):Prop:=∀n rhs,(n,rhs)∈N.rules↔∃k,yN n k=some rhs
theorem lZ  (h:Q2 N yN) (hl:Tx yN):Xb N:=λr hr=>by
 obtain⟨k,hk⟩:=(h r.1 r.2).1 hr;obtain⟨rest,e⟩:=hl _ _ _ hk;exact⟨k,rest,e⟩
def DA (yN:Nat->Nat->Option (List Pt)):List Pt->Nat->Option (List Pt)
 | [],_=>none
 | .tok u::s,t=>if u=t then some s else none
 | .yB n::s,t=>(yN n t).map λrhs=>rhs.tail++s
def CQ (yN:Nat->Nat->Option (List Pt)):List Pt->List Nat->Option (List Pt)
 |l,[]=>some l
 |l,t::b=>(DA yN l t).bind λs=>CQ yN s b
theorem IW (yN:Nat->Nat->Option (List Pt)):∀(l:List Pt) (a b:List Nat),CQ yN l (a++b)=(CQ yN l a).bind λs=>CQ yN s b
 |l,[],b=>rfl
 |l,t::a,b=>by
  show(DA yN l t).bind (λs=>CQ yN s (a++b))=((DA yN l t).bind λs=>CQ yN s a).bind λs=>CQ yN s b
  cases DA yN l t with
  |none=>rfl
  |some s=>exact IW yN s a b
theorem fQ  (hr:Q2 N yN) (hl:Tx yN)  (h:zP N l b):∀s,CQ yN (l++s) b=some s:=by
 induction h with
 |nil=>intro s;rfl
 | @tok t ps r _ ih=>
  intro s;show(DA yN (.tok t::(ps++s)) t).bind _=_;simp only[DA,aq];exact ih s
 | @yB n rhs ps a b hm ha hb ih1 ih2=>
  intro s;obtain⟨k,hk⟩:=(hr n rhs).1 hm;obtain⟨rest,e⟩:=hl _ _ _ hk;subst e;cases ha with
  | @tok _ _ r Kl=>
   have h1:=ih1 (ps++s);have h2:CQ yN (rest++(ps++s)) r=some (ps++s):=by
    have h3:CQ yN (.tok k::rest++(ps++s)) (k::r)=CQ yN (rest++(ps++s)) r:=by
     show(DA yN (.tok k::(rest++(ps++s))) k).bind _=_;simp only[DA,aq];rfl
    rw[<-h3];exact h1
   show(DA yN (.yB n::(ps++s)) k).bind (λs=>CQ yN s (r++b))=some s;simp only[DA,hk,ko,List.tail_cons,Option.bind_some];rw[IW,h2];exact ih2 s
theorem jU:∀{l:List Pt}{b:List Nat},zP N l b->∀(x y:List Pt),l=x++y->∃b1 b2,b=b1++b2/\zP N x b1/\zP N y b2:=by
 intro l b h
 induction h with
 |nil=>
  intro x y e;obtain⟨rfl,rfl⟩:=List.append_eq_nil_iff.1 e.symm;exact⟨[],[],rfl,.nil,.nil⟩
 | @tok t ps r h0 ih=>
  intro x y e;cases x with
  |nil=>
   simp only[eu]at e;subst e;exact⟨[],t::r,rfl,.nil,.tok h0⟩
  |cons p x=>
   injection e with e1 e2
   subst e1;obtain⟨b1,b2,e3,k1,k2⟩:=ih x y e2;exact⟨t::b1,b2,by rw[e3];rfl,.tok k1,k2⟩
 | @yB n rhs ps a b hm ha hb ih1 ih2=>
  intro x y e;cases x with
  |nil=>
   simp only[eu]at e;subst e;exact⟨[],a++b,rfl,.nil,.yB hm ha hb⟩
  |cons p x=>
   injection e with e1 e2
   subst e1;obtain⟨b1,b2,e3,k1,k2⟩:=ih2 x y e2;exact⟨a++b1,b2,by rw[e3,aA],.yB hm ha k1,k2⟩
theorem VZ {N:NG}{yN:Nat->Nat->Option (List Pt)} (hr:Q2 N yN) (hl:Tx yN):∀(b:List Nat) (l:List Pt),CQ yN l b=some []->zP N l b
 | [],l,h=>by
  have:l=[]:=by injection h
  subst this;exact .nil
 |t::b,l,h=>by
  cases l with
  |nil=>cases h
  |cons p s=>
   cases p with
   |tok u=>
    have h:(DA yN (.tok u::s) t).bind (λs=>CQ yN s b)=some []:=h;simp only[DA]at h
    by_cases e:u=t
    ·subst e
     rw[aq rfl]at h;exact .tok (VZ hr hl b s h)
    ·rw[au e]at h;cases h
   |yB n=>
    have h:(DA yN (.yB n::s) t).bind (λs=>CQ yN s b)=some []:=h;simp only[DA]at h;cases hk:yN n t with
    |none=>rw[hk]at h;cases h
    |some rhs=>
     rw[hk]at h;obtain⟨rest,e⟩:=hl _ _ _ hk;subst e;have h2:CQ yN (rest++s) b=some []:=h;obtain⟨b1,b2,e,k1,k2⟩:=jU (VZ hr hl b _ h2) rest s rfl;subst e;exact .yB (a:=t::b1) ((hr _ _).2 ⟨_,hk⟩) (.tok k1) k2
structure IK where
 part:Pt
 rule:Int
 size:Nat
inductive zJ (yN:Nat->Nat->Option (List Pt)):List Pt->List Nat->List IK->Prop
 |nil:zJ yN [] [] []
 |tok {t:Nat}{ps:List Pt}{r:List Nat}{T:List IK}:zJ yN ps r T->zJ yN (.tok t::ps) (t::r) (⟨.tok t,-1,1⟩::T)
 |yB {n k:Nat}{rhs ps:List Pt}{a b:List Nat}{S T:List IK}:yN n k=some rhs->zJ yN rhs a S->zJ yN ps b T->zJ yN (.yB n::ps) (a++b) (⟨.yB n,k,S.length+1⟩::S++T)
theorem zJ.der  (hr:Q2 N yN) {T:List IK} (h:zJ yN l b T):zP N l b:=by
 induction h with
 |nil=>exact .nil
 |tok _ ih=>exact .tok ih
 |yB hk _ _ ih1 ih2=>exact .yB ((hr _ _).2 ⟨_,hk⟩) ih1 ih2
theorem pT  (hr:Q2 N yN)  (h:zP N l b):∃T,zJ yN l b T:=by
 induction h with
 |nil=>exact⟨_,.nil⟩
 |tok _ ih=>obtain⟨T,h⟩:=ih;exact⟨_,.tok h⟩
 |yB hm _ _ ih1 ih2=>
  obtain⟨S,h1⟩:=ih1;obtain⟨T,h2⟩:=ih2;obtain⟨k,hk⟩:=(hr _ _).1 hm;exact⟨_,.yB hk h1 h2⟩
section
section
variable {N:NG}
theorem sZ (g:List Nat)  (hi:i<g.length):Al N (g.take i++g.drop (i+1)) g (N.put g[i]):=by
 have h1:=(Al.refl N (g.take i)).append (Al.put g[i] (Al.refl N (g.drop (i+1))));have e:g.take i++g[i]::g.drop (i+1)=g:=by
  rw[<-gm hi];exact qx i g
 rw[e]at h1;simpa using h1
theorem uD (g:List Nat) (i t:Nat):Al N (g.take i++t::g.drop i) g (N.drop t):=by
 have h1:=(Al.refl N (g.take i)).append (Al.drop t (Al.refl N (g.drop i)));rw[qx]at h1;simpa using h1
end
end
theorem ZP (w:World) (n₀ fb kb:Nat) (N:NG) (yL:List ByteArray) (pg:List Nm) (yu:Option Addr) (yl gN xY:Nat) (k:List Fa) (h:zK w n₀ fb kb N yL pg yu yl gN xY k) (Bi:∀n,AL k n<2 ^21) (hfo:∀n,B1 k n<2 ^21)
  (n r:Nat) (nm:Nm) (ps:List Pt) (hn:pg[n]?=some nm) (yY:n<N.nN) (hr:nm.2[r]?=some ps) (hps:B3 N ps) (hlen:ps.length<=8):
  Calls Tryz.prog 127 #[ac fb,ab n,ab r] w λe w'=>e=.returned (.int .u32 (DU k ps (B1 k n)))/\Below w.heap.size w w':=by
 have Ad:=h.ln;have hlf:=h.lf;have y7:=h.kn.lt;have zU:=h.gr.Bt;have f1:=h.f1;have f2:=h.f2;have hgN:=h.gr.hgN;obtain⟨_,v,c1,gR,Nw,rfl,Mh,Eb,hrl⟩:=h.gr.names n nm hn;obtain⟨p,c2,hp⟩:=hrl r ps hr;obtain⟨a,ha⟩:∃a,k[n]?=some a:=⟨_,gE (by rw[h.kn.1];exact yY)⟩;obtain⟨_,_,_,c3⟩:=h.kn.cells ha;have adx:=hfo n;rw[VM ha]at adx ⊢;have CA:Hid (Calls Tryz.prog 165 #[ac fb,p,.int .u32 a.follow] w.drew λe w'=>e=.returned (.int .u32 (DU k ps a.follow))/\Below w.drew.heap.size w.drew w'):=hid (
  XE w.drew n₀ fb kb N yL pg yu yl gN xY k (h.below (Af (ah _ _))) Bi p ps (hp.below ((Af (ah _ _)).mono Ad)) hps hlen a.follow adx)
 have hrL:=(yS.1 hr).1;obtain⟨nL,Jl⟩:=qF (nm.2.length);rw[<-Jl]at c1 Eb hrL;obtain⟨nN,hn1⟩:=qF (N.nN);rw[<-hn1]at f1 f2 zU yY;clear h Bi hfo hrl hp hps hlen adx ha hn hr Jl hn1
 go_enter Tryz.func127,Tryz.ntmps127
 go_wp2;refine dn (S:=λw'=>(w'.cell? (af fb 1)=some (ae gN nN xY)/\w'.cell? (af fb 2)=some (ae kb nN nN)/\w'.cell? (af gN (n*2+1))=some (ae gR nL Nw)/\w'.cell? (af gR r)=some p/\w'.cell? (af kb (n*4+3))=some (.int .u32 a.follow))/\Below w.heap.size w w') yg ⟨⟨f1,f2,c1,c2,c3⟩,Af (ah _ _)⟩ (λhH=>?_);have k1:fb<w.drew.heap.size:=hlf;have k2:gN<w.drew.heap.size:=by show gN<w.heap.size;omega
 have k3:gR<w.drew.heap.size:=by show gR<w.heap.size;omega
 have k4:kb<w.drew.heap.size:=y7;refine tB 0 hH ?_;refine tB 1 hH ?_;refine tB 2 hH ?_;refine tB 3 hH ?_;refine tB 4 hH ?_;refine tB 5 hH ?_;refine tB 6 hH ?_;refine tB 7 hH ?_;refine tB 8 hH ?_;refine tB 9 hH ?_;refine tB 10 hH ?_;refine tB 11 hH ?_;refine tB 12 hH ?_;refine tB 13 hH ?_;refine tB 14 hH ?_;refine tB 15 hH ?_;refine tB 16 hH ?_;refine tB 17 hH ?_;refine tB 18 hH ?_;refine tB 19 hH ?_;refine tB 20 hH ?_;refine tL ?_;refine tS 21 λK hK=>?_
 refine tM ?_
 go_simp;refine CA.out.mono ?_;rintro e w5 ⟨rfl,yT⟩;try dsimp only
 refine hK.out _ _ ?_ λhH=>?_
 ·exact⟨⟨(yT.cell (by exact k1)).trans hH.1.1,(yT.cell (by exact k1)).trans hH.1.2.1,(yT.cell (by exact k2)).trans hH.1.2.2.1,(yT.cell (by exact k3)).trans hH.1.2.2.2.1,(yT.cell (by exact k4)).trans hH.1.2.2.2.2⟩,hH.2.trans (yT.mono hH.2.size)⟩
 clear hK K;refine tB 22 hH ?_;refine tL ?_;refine bk yg ?_ _;have Pp:=hid hH.2;clear hH yT;go_wp2;go_ret;exact⟨rfl,Pp.out⟩
theorem dF (w:World) (n₀ fb kb:Nat) (N:NG) (yL:List ByteArray) (pg:List Nm) (yu:Option Addr) (yl gN xY:Nat) (k:List Fa) (h:zK w n₀ fb kb N yL pg yu yl gN xY k) (Bi:∀n,AL k n<2 ^21) (v:Value) (ps:List Pt) (hv:C0 w n₀ v ps) (hps:B3 N ps) (hlen:ps.length<=8):
  Calls Tryz.prog 131 #[ac fb,v] w λe w'=>e=.returned (.bool (FE (zT k) ps))/\Below w.heap.size w w':=by
 have CB:=OU w n₀ fb kb N yL pg yu yl gN xY k h Bi v ps hv hps hlen;rw[(J8 k ps 0).1]at CB;have Fe:=hid CB;obtain⟨ad,cap,rfl,_,_⟩:=hv;clear h Bi hps hlen CB
 go_enter Tryz.func131,Tryz.ntmps131
 go_wp2_with (go_at_call 162;refine Fe.out.mono ?_;rintro e w2 ⟨rfl,hb2⟩;have HB:=hid hb2;clear hb2)
 go_ret;exact⟨rfl,HB.out⟩
def DJ (a b:Nat):Nat:=min (a+b) 939524097
theorem afN {P:Prop} (h:P:=by
  go_wp2;go_ret;exact⟨by first |rfl | (rw[e];rfl) | (refine congrArg (λz=>Ending.returned (ab z)) ?_;first |omega | (unfold DJ;omega)),rfl⟩):P:=h
theorem MV (a b:Nat) (ha:a<=939524097) (hb:b<=939524097) (w:World):Calls Tryz.prog 184 #[ab a,ab b] w λe w'=>e=.returned (ab (DJ a b))/\w=w':=by
 go_enter Tryz.func184,Tryz.ntmps184
 rcases jw 939524097 (a+b)with h0 |h0
 ·have h1:¬((a:Int)+(b:Int)<=939524097):=by omega
  have e:DJ a b=939524097:=by unfold DJ;omega
  exact afN
 ·have h1:(a:Int)+(b:Int)<=939524097:=by omega
  have e:((DJ a b:Nat):Int)=(a:Int)+(b:Int):=by unfold DJ;omega
  exact afN
def EmC (w:World) (tb:Nat):Prop:=∀m,m<20->∃x:Nat,x<=939524097/\w.cell? (af tb (423+m))=some (ab x)
theorem EmC.below {w w':World}{tb B:Nat} (h:EmC w tb) (hb:Below B w w') (ht:tb<B):EmC w' tb:=λm hm=>by
 obtain⟨x,h1,h2⟩:=h m hm;exact⟨x,h1,(hb.cell (by exact ht)).trans h2⟩
theorem WW (w:World) (n₀ tb:Nat) (N:NG) (Cj:N.nT<=20) (aa3:N.nN<=20) (hn0:n₀<=w.heap.size) (htb:tb<w.heap.size) (hE:EmC w tb) (v:Value) (ps:List Pt) (hv:C0 w n₀ v ps) (hps:B3 N ps) (hlen:ps.length<=8):
  Calls Tryz.prog 132 #[ac tb,v] w λe w'=>(∃x:Nat,x<=939524097/\e=.returned (ab x))/\Below w.heap.size w w':=by
 obtain⟨ad,cap,rfl,hcap,hcs⟩:=hv;obtain⟨L,hL⟩:=qF (ps.length);rw[<-hL]at hcap hcs hlen ⊢;have HL:Hid (L=ps.length):=hid hL;have HC:=hid hcs;have HP:Hid (B3 N ps):=hid hps;have HE:Hid (EmC w tb):=hid hE;clear hL hcs hps hE
 go_enter Tryz.func132,Tryz.ntmps132
 go_wp2
 go_loopw [5,10] (λs i wr=>∃j f:Nat,j<=L/\i=ab j/\s=ab f/\f<=939524097/\Hid (Below w.heap.size w wr)) (λ_ i _=>L - (intOf i).toNat)
 case atStart=>exact⟨0,1,bu _,rfl,rfl,by omega,ah _ _⟩
 case round=>
  obtain⟨j,f,hj,rfl,rfl,hf,HB⟩:=hrel
  by_cases hlt:j<L
  ·obtain⟨p,hp⟩:∃p,ps[j]?=some p:=⟨_,gE Zs⟩
   obtain⟨g,off,rfl,hg,hcl⟩:=HC.out (by omega);have Tq:=HB.out.size;have Hl:g<wr.heap.size:=by omega
   have p0:=(HB.out.cell (p:=(af g (off+j*2))) Hj).trans (hcl j p hp).1;have p1:=(HB.out.cell (p:=(af g (off+j*2+1))) Hj).trans (hcl j p hp).2;have hpn:AP p<20:=by
    have:=HP.out.at hp;cases p with
    |tok t=>have h1:t<N.nT:=this;show t<20;omega
    |yB n=>have h1:n<N.nN:=this;show n<20;omega
   obtain⟨x,hx,Mi⟩:=HE.out.below HB.out htb (AP p) hpn;obtain⟨pi,hpi⟩:=qE (AQ p);obtain⟨pn,afO⟩:=qE (AP p);rw[hpi]at p0;rw[afO]at p1 hpn Mi;have Nh:tb<wr.heap.size:=by omega
   have ak5:(pn:Int)<20:=by omega
   clear hcl hp hpi afO;go_wp2;obtain⟨W2,hW2⟩:=qE (wr.alloc (.cells #[.bool pi,ab pn] 235));have d1:W2.cell? (af wr.heap.size 1)=some (ab pn):=by rw[<-hW2];exact BF wr _ _ 1
   have d2:W2.cell? (af tb (423+pn))=some (ab x):=by rw[<-hW2];exact A2 _ Mi
   have ab1:Below w.heap.size w W2:=by rw[<-hW2];exact zl HB.out
   have q1:wr.heap.size<W2.drew.heap.size:=bq _ _ d1;have q2:tb<W2.drew.heap.size:=bq _ _ d2;rw[hW2];clear hW2 p0 p1 Mi;refine dn (S:=λw'=>(w'.cell? (af wr.heap.size 1)=some (ab pn)/\w'.cell? (af tb (423+pn))=some (ab x))/\Below w.heap.size w w') yg ⟨⟨d1,d2⟩,Af ab1⟩ (λhH=>?_);refine tB 0 hH ?_;refine tB 1 hH ?_;refine tB 2 hH ?_;refine tB 3 hH ?_;refine tB 4 hH ?_;refine tB 5 hH ?_;refine tB 6 hH ?_;refine tB 7 hH ?_;refine tL ?_;refine tS 8 λK hK=>?_
   refine tM ?_
   go_simp;refine(MV f x hf hx _).mono ?_;rintro e w5 ⟨rfl,rfl⟩;try dsimp only
   refine hK.out _ _ ?_ λhH=>?_
   ·exact hH
   clear hK K;refine tB 9 hH ?_;refine tL ?_;refine bk yg ?_ _;have Pp:=hid hH.2;have haN:DJ f x<=939524097:=by unfold DJ;omega
   obtain⟨y,hy⟩:=qE (DJ f x);rw[hy]at haN ⊢;clear hH d1 d2 hy;go_wp2
   go_roundw
   case rel=>exact⟨j+1,y,by omega,by go_num,rfl,haN,Pp⟩
   case measure=>simp[intOf];omega
  ·go_wp2
   go_ret;exact⟨⟨f,hf,rfl⟩,HB.out⟩
end Go.Proofs.YtjjggdcnpndgjaaGreatDoor
