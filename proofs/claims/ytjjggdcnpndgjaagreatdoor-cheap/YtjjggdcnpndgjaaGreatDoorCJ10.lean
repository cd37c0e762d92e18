import Derived.Test.YtjjggdcnpndgjaaGreatDoorCJ9
set_option linter.unusedSimpArgs false
set_option maxHeartbeats 4000000
set_option maxRecDepth 100000
namespace Go.Proofs.YtjjggdcnpndgjaaGreatDoor
abbrev bq:=@Go.wpAnyH_done
abbrev uw:=@List.range_succ
abbrev vn:=@Nat.succ_mul
abbrev wu:=@Go.World.cell?_setCell_other
abbrev yu:=@List.length_set
open Go.RowKit
variable {B b cap g i k n n₀ n₁ p t x:Nat}{L:List (List (List Pt))}{S:List Nat}{c:Nat->Nat->Nat->Pt}{ck cn gk gn:Nat->Nat}{cr gr:Nat->Nat->Nat}{m:Mk}{r:List Pt}{role:Nat->Option (Nat × Nat)}{rs:List (List Pt)}{v:Value}{w w' w1:World}
def JH (n:Nat) (p:Nat->Bool):Option Nat:=(List.range n).find? λi=> !p i
theorem QH {p:Nat->Bool} (h:∀j,j<n->p j=true):JH n p=none:=by
 unfold JH;rw[List.find?_eq_none];intro x hx;simp[h x (jc.1 hx)]
def ON (G:Gr) (N:NG):ByteArray × Int:=
 match JH N.nN (zN (BU N true))with
 |some i=>(nth G.names i,6)
 |none=>match JH N.nN (zN (J6 N))with
  |some i=>(nth G.names i,7)
  |none=>match JH N.nN (λi=>decide (Ar (JW N) i<=200))with
   |some i=>(nth G.names i,8)
   |none=>(ByteArray.empty,0)
def zR (m:Mk):NG where
 nT:=m.zJ.length
 nN:=m.rules.length
 put:=λt=>m.zJ.getD t 0
 drop:=λt=>m.Ai.getD t 0
 swp:=DA m
 rules:=m.rules.zipIdx.flatMap λx=>x.1.map λps=>(x.2,ps)
theorem IW {r:Nat × List Pt}:r∈(zR m).rules↔∃rs,m.rules[r.1]?=some rs/\r.2∈rs:=by
 show r∈m.rules.zipIdx.flatMap (λx=>x.1.map λps=>(x.2,ps))↔_;rw[qd];constructor
 ·rintro⟨⟨rs,n⟩,hx,hr⟩
  obtain⟨ps,hps,rfl⟩:=dm.1 hr;exact⟨rs,kf.1 hx,hps⟩
 ·rintro⟨rs,h1,h2⟩
  exact⟨(rs,r.1),kf.2 h1,dm.2 ⟨r.2,h2,rfl⟩⟩
theorem E6  (h:m.rules[n]?=some rs):n<m.rules.length/\rs∈m.rules:=by
 obtain⟨h1,h2⟩:=zM.1 h;exact⟨h1,h2▸ot h1⟩
theorem Mk.Good.Vx  (h:m.Good)  (hrs:rs∈m.rules)  (hr:r∈rs):∃k ps,k<rs.length/\r=.tok k::ps/\r.length<=5:=by
 obtain⟨k,hk,rfl⟩:=jv.1 hr;obtain⟨h1,h2⟩:=h.head rs hrs k _ (gE hk)
 revert h1 h2
 generalize rs[k]=q
 intro h1 h2;cases q with
 |nil=>cases h1
 |cons a t=>injection h1 with h1;subst h1;exact⟨k,t,hk,rfl,h2⟩
theorem Mk.Good.Ph  (h:m.Good)  (ht:t<m.zJ.length):1<=m.zJ.getD t 0/\m.zJ.getD t 0<=9:=by
 rw[Af,gE ht];exact h.p1 _ (ot ht)
theorem Mk.Good.Zc  (h:m.Good)  (ht:t<m.zJ.length):1<=m.Ai.getD t 0/\m.Ai.getD t 0<=9:=by
 rw[Af,gE (by rw[h.dl];exact ht)];exact h.d1 _ (ot _)
theorem Mk.Good.ad5  (h:m.Good) (i j:Nat):DA m i j<=9:=by
 unfold DA;simp only[Af];cases hi:m.swaps[i]? with
 |none=>simp
 |some r=>
  simp only[jq];cases hj:r[j]? with
  |none=>simp
  |some x=>exact h.s1 r (mG hi) x (mG hj)
theorem J5  (h:m.Good):(zR m).Ok where
 pos:=h.n1
 lt:=λr hr=>by
  obtain⟨rs,h1,_⟩:=IW.1 hr;exact(E6 h1).1
 pn:=λr hr n hn=>by
  obtain⟨rs,h1,h2⟩:=IW.1 hr;exact h.part rs (E6 h1).2 r.2 h2 _ hn
 pt:=λr hr t ht=>by
  obtain⟨rs,h1,h2⟩:=IW.1 hr;exact h.part rs (E6 h1).2 r.2 h2 _ ht
 Yz:=λt ht=>(h.Ph ht).1
 Za:=λt ht=>by have:=(h.Ph ht).2;show m.zJ.getD t 0<=99;omega
 abq:=λt ht=>(h.Zc ht).1
 acM:=λt ht=>by have:=(h.Zc ht).2;show m.Ai.getD t 0<=99;omega
 acN:=λt u=>by have:=h.ad5 t u;show DA m t u<=99;omega
 parts:=λr hr=>by
  obtain⟨rs,h1,h2⟩:=IW.1 hr;obtain⟨k,ps,_,_,h3⟩:=h.Vx (E6 h1).2 h2;omega
theorem Mk.Good.acO  (h:m.Good)  (hn:n<m.rules.length):∃r,(n,r)∈(zR m).rules/\(∀p∈r,∃t,p=.tok t)/\r.length<=5:=by
 obtain⟨rs,hrs⟩:∃rs,m.rules[n]?=some rs:=⟨_,gE hn⟩;have hm:=(E6 hrs).2;have h1:=h.c1 rs hm;have hne:rs≠ []:=by intro e;subst e;simp at h1
 have hl:rs.getLast?=some (rs.getLast hne):=List.getLast?_eq_some_getLast hne;have hmem:=List.getLast_mem hne;obtain⟨_,_,_,_,h3⟩:=h.Vx hm hmem;exact⟨_,IW.2 ⟨rs,hrs,hmem⟩,h.last rs hm _ hl,h3⟩
theorem qJ  (h:m.Good) (n:Nat):zN (BU (zR m) false) n=false:=by
 have hl:=(M5 (zR m) (J5 h) false).1;have:=hl.2 (λ_=>false) (λr hr he=>by
  obtain⟨rs,h1,h2⟩:=IW.1 hr;obtain⟨k,ps,_,e,_⟩:=h.Vx (E6 h1).2 h2;rw[e]at he;simp[JV]at he) n
 cases hb:zN (BU (zR m) false) n with
 |false=>rfl
 |true=>exact absurd (this hb) (by decide)
theorem wG  (h:m.Good)  (hn:n< (zR m).nN):zN (BU (zR m) true) n=true:=by
 have hl:=(M5 (zR m) (J5 h) true).1;obtain⟨r,hr,ht,_⟩:=h.acO hn;refine hl.1 (n,r) hr ?_;unfold JV;rw[oh];intro p hp;obtain⟨t,rfl⟩:=ht p hp;rfl
theorem oP  (h:m.Good):∀{n:Nat},n< (zR m).nN->zN (J6 (zR m)) n=true:=by
 have hl:=(VE (zR m) (J5 h)).1.1;intro n
 induction n with
 |zero=>intro _;exact hl.1
 |succ n ih=>
  intro hn;have hn':n+1<m.rules.length:=hn;obtain⟨rs,hrs⟩:∃rs,m.rules[n]?=some rs:=⟨_,gE (by omega)⟩;obtain⟨r,hr,hm⟩:=h.reach n rs hrs hn';have hin:r∈rs:=by
   obtain⟨h1,h2⟩:=zM.1 hr;exact h2▸ot h1
  exact hl.2 (n,r) (IW.2 ⟨rs,hrs,hin⟩) (ih (by show n<m.rules.length;omega)) (n+1) hm
theorem dU {m:Mk} (h:m.Good) (f:Nat->Nat):∀r:List Pt,(∀p∈r,∃t,p=.tok t)->(∀p∈r,E9 m.zJ.length m.rules.length p)->E4 (zR m) f r<=r.length*9
 | [],_,_=>zn _
 | .tok t::r,h1,h2=>by
  have h3:t<m.zJ.length:=h2 (.tok t) (by simp);have h4:=(h.Ph h3).2;have ih:=dU h f r (λp hp=>h1 p (by simp[hp])) (λp hp=>h2 p (by simp[hp]));rw[lC,vn];show m.zJ.getD t 0+E4 (zR m) f r<=_;omega
 | .zi n::r,h1,_=>by
  obtain⟨t,ht⟩:=h1 (.zi n) (by simp);cases ht
theorem eD  (h:m.Good)  (hn:n< (zR m).nN):Ar (JW (zR m)) n<=45:=by
 have hl:=(T0 (zR m) (J5 h)).1;obtain⟨r,hr,ht,h5⟩:=h.acO hn;have h1:Ar (JW (zR m)) n<=E4 (zR m) (Ar (JW (zR m))) r:=hl.2.1 (n,r) hr;obtain⟨rs,h2,h3⟩:=IW.1 hr;have h4:=dU h (Ar (JW (zR m))) r ht (h.part rs (E6 h2).2 r h3);omega
theorem iO  (h:m.Good) (G:Gr):ON G (zR m)=(ByteArray.empty,0):=by
 unfold ON;rw[QH (λj hj=>wG h hj),QH (λj hj=>oP h hj),QH (λj hj=>by
  have:=eD h hj;exact iz (by omega))]
theorem pI  (h:m.Good)  (hn:m.rules[n]?=some rs) (t:Nat):
  zN (Fk (J7 (zR m) (zN (BU (zR m) false))) n) t=decide (t<rs.length):=by
 have hl:=(QI (zR m) (J5 h) (zN (BU (zR m) false))).2 t;show col _ t n=_;rw[ow,ir];constructor
 ·intro hc
  have:=hl.2 (λi=>decide (t< (m.rules.getD i []).length)) (λr hr he=>by
   obtain⟨qs,h1,h2⟩:=IW.1 hr;obtain⟨k,ps,hk,e,_⟩:=h.Vx (E6 h1).2 h2;rw[e]at he;have hkt:(k==t)=true:=he;rw[kr]at hkt;subst hkt;rw[ir,Af,h1];exact hk) n hc
  rw[ir,Af,hn]at this;exact this
 ·intro ht
  have hm:=(E6 hn).2;obtain⟨h1,_⟩:=h.head rs hm t _ (gE ht);refine hl.1 (n,rs[t]) (IW.2 ⟨rs,hn,ot ht⟩) ?_
  revert h1
  generalize rs[t]=q
  intro h1;cases q with
  |nil=>cases h1
  |cons a b=>injection h1 with h1;subst h1;simp[E5]
def GN (w:World) (n₀:Nat) (v:Value) (n:Nat) (P:Nat->Value->Prop):Prop:=
 ∃g cap,v=ae g n cap/\n<=cap/\g<n₀/\∀j,j<n->∃x,w.cell? (af g j)=some x/\P j x
theorem GN.below {P Q:Nat->Value->Prop} (h:GN w n₀ v n P) (hb:Below n₀ w w') (hPQ:∀j x,j<n->P j x->Q j x):GN w' n₀ v n Q:=by
 obtain⟨g,cap,h1,h2,h3,h4⟩:=h;refine⟨g,cap,h1,h2,h3,λj hj=>?_⟩;obtain⟨x,h5,h6⟩:=h4 j hj;exact⟨x,(hb.cell (by exact h3)).trans h5,hPQ j x hj h6⟩
def xP (r:List Pt) (p:Nat) (z:Value):Prop:=∃q,r[p]?=some q/\z=.string (EG q)
def xR (w:World) (n₀:Nat) (rs:List (List Pt)) (k:Nat) (y:Value):Prop:=∃r,rs[k]?=some r/\GN w n₀ y r.length (xP r)
def QJ (w:World) (n₀:Nat) (m:Mk) (n:Nat) (x:Value):Prop:=∃rs,m.rules[n]?=some rs/\GN w n₀ x rs.length (xR w n₀ rs)
structure Gf (w:World) (n₀ b:Nat) (m:Mk):Prop where
 lt:b<n₀
 rules:∃v,w.cell? (af b 0)=some v/\GN w n₀ v m.rules.length (QJ w n₀ m)
 zJ:∃v,w.cell? (af b 1)=some v/\GN w n₀ v m.zJ.length λj x=>x=ab (m.zJ.getD j 0:Nat)
 Ai:∃v,w.cell? (af b 2)=some v/\GN w n₀ v m.zJ.length λj x=>x=ab (m.Ai.getD j 0:Nat)
 swaps:∃v,w.cell? (af b 3)=some v/\GN w n₀ v m.zJ.length λi x=>GN w n₀ x m.zJ.length λj y=>y=ab (DA m i j:Nat)
theorem QJ.below {x:Value} (h:QJ w n₀ m n x) (hb:Below n₀ w w'):QJ w' n₀ m n x:=by
 obtain⟨rs,h1,h2⟩:=h;exact⟨rs,h1,h2.below hb λk y _ ⟨r,h3,h4⟩=>⟨r,h3,h4.below hb λ_ _ _ h=>h⟩⟩
theorem Gf.below  (h:Gf w n₀ b m) (hb:Below n₀ w w'):Gf w' n₀ b m where
 lt:=h.lt
 rules:=by
  obtain⟨v,h1,h2⟩:=h.rules;exact⟨v,(hb.cell Tq).trans h1,h2.below hb λ_ _ _ h=>h.below hb⟩
 zJ:=by
  obtain⟨v,h1,h2⟩:=h.zJ;exact⟨v,(hb.cell Tq).trans h1,h2.below hb λ_ _ _ h=>h⟩
 Ai:=by
  obtain⟨v,h1,h2⟩:=h.Ai;exact⟨v,(hb.cell Tq).trans h1,h2.below hb λ_ _ _ h=>h⟩
 swaps:=by
  obtain⟨v,h1,h2⟩:=h.swaps;exact⟨v,(hb.cell Tq).trans h1,h2.below hb λ_ _ _ h=>h.below hb λ_ _ _ h=>h⟩
theorem GN.up {P Q:Nat->Value->Prop} (h:GN w n₀ v n P) (hn:n₀<=n₁) (hPQ:∀j x,P j x->Q j x):GN w n₁ v n Q:=by
 obtain⟨g,cap,h1,h2,h3,h4⟩:=h;refine⟨g,cap,h1,h2,lL h3 hn,λj hj=>?_⟩;obtain⟨x,h5,h6⟩:=h4 j hj;exact⟨x,h5,hPQ j x h6⟩
theorem QJ.up {x:Value} (h:QJ w n₀ m n x) (hn:n₀<=n₁):QJ w n₁ m n x:=by
 obtain⟨rs,h1,h2⟩:=h;exact⟨rs,h1,h2.up hn λk y ⟨r,h3,h4⟩=>⟨r,h3,h4.up hn λ_ _ h=>h⟩⟩
theorem Gf.up  (h:Gf w n₀ b m) (hn:n₀<=n₁):Gf w n₁ b m where
 lt:=lL h.lt hn
 rules:=by
  obtain⟨v,h1,h2⟩:=h.rules;exact⟨v,h1,h2.up hn λ_ _ h=>h.up hn⟩
 zJ:=by
  obtain⟨v,h1,h2⟩:=h.zJ;exact⟨v,h1,h2.up hn λ_ _ h=>h⟩
 Ai:=by
  obtain⟨v,h1,h2⟩:=h.Ai;exact⟨v,h1,h2.up hn λ_ _ h=>h⟩
 swaps:=by
  obtain⟨v,h1,h2⟩:=h.swaps;exact⟨v,h1,h2.up hn λ_ _ h=>h.up hn λ_ _ h=>h⟩
theorem X1:∀u,u<6->Op.bytesLess (AB u).toList [65]=false:=by decide+kernel
theorem WQ:∀u,u<6->Op.bytesLess (AB u).toList [68]=false:=by decide+kernel
theorem WR:∀u,u<6->((AB u).toList== [68])=false:=by decide+kernel
theorem WP:∀u,u<4->Op.bytesLess (BM u).toList [65]=false:=by decide+kernel
theorem XF:∀u,u<4->Op.bytesLess (BM u).toList [68]=true\/((BM u).toList== [68])=true:=by decide+kernel
theorem OW (u:Nat):0< (BM u).size:=by show 0<1;omega
theorem WE:∀u,u<4->∀h:0< (BM u).size,(((BM u)[0]'h).toNat:Int)=65+u:=by
 intro u hu h;have e:u=0\/u=1\/u=2\/u=3:=by omega
 rcases e with rfl |rfl |rfl |rfl <;> rfl
def OA (n:Nat):Pt->Pt
 | .tok t=>.tok t
 | .zi k=>if n<=k then .tok 0 else .zi k
structure Md (W:World) (b:Nat) (L:List (List (List Pt))) (role:Nat->Option (Nat × Nat)) (gR cR:Nat) (gn cn:Nat->Nat) (gr cr:Nat->Nat->Nat) (c:Nat->Nat->Nat->Pt):Prop where
 rb:role b=none
 rR:role gR=none
 rn:∀n,n<L.length->role (gn n)=none
 rr:∀(n:Nat) rs (k:Nat) r,L[n]?=some rs->rs[k]?=some r->role (gr n k)=some (n,k)
 c0:W.cell? (af b 0)=some (ae gR L.length cR)
 lR:L.length<=cR
 names:∀(n:Nat) rs,L[n]?=some rs->W.cell? (af gR n)=some (.slice (some ⟨gn n,0,none⟩) rs.length (cn n))/\rs.length<=cn n
 rules:∀(n:Nat) rs (k:Nat) r,L[n]?=some rs->rs[k]?=some r->W.cell? ⟨gn n,k,none⟩=some (.slice (some ⟨gr n k,0,none⟩) r.length (cr n k))/\r.length<=cr n k
 parts:∀(n:Nat) rs (k:Nat) r (p:Nat) a,L[n]?=some rs->rs[k]?=some r->r[p]?=some a->W.cell? ⟨gr n k,p,none⟩=some (.string (EG (c n k p)))/\W.frozen? ⟨gr n k,p,none⟩=false
def LT (i k p:Nat) (n' k' p':Nat):Prop:=n'<i\/(n'=i/\(k'<k\/(k'=k/\p'<p)))
structure IA (n:Nat) (L:List (List (List Pt))) (i k p:Nat) (c:Nat->Nat->Nat->Pt):Prop where
 holds:∀(n':Nat) rs (k':Nat) r (p':Nat) a,L[n']?=some rs->rs[k']?=some r->r[p']?=some a->(LT i k p n' k' p'->c n' k' p'=OA n a)/\(¬LT i k p n' k' p'->c n' k' p'=a)
theorem IA.same {i2 k2 p2:Nat} (h:IA n L i k p c) (hs:∀(n':Nat) rs (k':Nat) r (p':Nat),L[n']?=some rs->rs[k']?=some r->p'<r.length->(LT i k p n' k' p'↔LT i2 k2 p2 n' k' p')):IA n L i2 k2 p2 c where
 holds:=λn' rs k' r p' a h1 h2 h3=>by
  have h4:=h.holds n' rs k' r p' a h1 h2 h3;have h5:=hs n' rs k' r p' h1 h2 (zM.1 h3).1;exact⟨λhd=>h4.1 (h5.2 hd),λhd=>h4.2 (λhx=>hd (h5.1 hx))⟩
theorem Md.put {W:World}{gR cR:Nat}{c':Nat->Nat->Nat->Pt} (h:Md W b L role gR cR gn cn gr cr c)
  {i k p:Nat}{rs:List (List Pt)}{r:List Pt}{a:Pt} (h1:L[i]?=some rs) (h2:rs[k]?=some r) (h3:r[p]?=some a) (hc:∀n' k' p',¬(n'=i/\k'=k/\p'=p)->c' n' k' p'=c n' k' p'):
  Md (W.setCell ⟨gr i k,p,none⟩ (.string (EG (c' i k p)))) b L role gR cR gn cn gr cr c':=by
 have hr:=h.rr i rs k r h1 h2;have ho:∀g o,role g=none->(W.setCell ⟨gr i k,p,none⟩ (.string (EG (c' i k p)))).cell? (af g o)=W.cell? (af g o):=λg o hg=>wu _ _ _ _ (λe=>by
  injection e with e _ _
  rw[e,hg]at hr;cases hr)
 refine⟨h.rb,h.rR,h.rn,h.rr,(ho _ _ h.rb).trans h.c0,h.lR,λn rs hn=>⟨(ho _ _ h.rR).trans (h.names n rs hn).1,(h.names n rs hn).2⟩,λn rs k r hn hk=>⟨(ho _ _ (h.rn n (zM.1 hn).1)).trans (h.rules n rs k r hn hk).1,(h.rules n rs k r hn hk).2⟩,λn' rs' k' r' p' a' g1 g2 g3=>?_⟩;have hp:=h.parts n' rs' k' r' p' a' g1 g2 g3;refine⟨?_,by rw[World.frozen?_setCell];exact hp.2⟩
 by_cases e:n'=i/\k'=k/\p'=p
 ·obtain⟨rfl,rfl,rfl⟩:=e
  exact World.cell?_setCell_same _ _ _ hp.1
 ·rw[hc n' k' p' e,<-hp.1]
  refine wu _ _ _ _ (λe2=>e ?_);injection e2 with e3 e4 _
  have hr2:=h.rr n' rs' k' r' g1 g2;rw[<-e3,hr]at hr2;injection hr2 with hr2
  injection hr2 with e5 e6
  exact⟨e5.symm,e6.symm,e4.symm⟩
theorem IA.step {c':Nat->Nat->Nat->Pt} (h:IA n L i k p c) {a:Pt} (h1:L[i]?=some rs) (h2:rs[k]?=some r) (h3:r[p]?=some a)
  (hc:∀n' k' p',¬(n'=i/\k'=k/\p'=p)->c' n' k' p'=c n' k' p') (hv:c' i k p=OA n a):IA n L i k (p+1) c' where
 holds:=λn' rs' k' r' p' a' g1 g2 g3=>by
  have h4:=h.holds n' rs' k' r' p' a' g1 g2 g3
  by_cases e:n'=i/\k'=k/\p'=p
  ·obtain⟨rfl,rfl,rfl⟩:=e
   rw[h1]at g1;injection g1 with g1
   subst g1;rw[h2]at g2;injection g2 with g2
   subst g2;rw[h3]at g3;injection g3 with g3
   subst g3;exact⟨λ_=>hv,λhd=>absurd (Or.inr ⟨rfl,Or.inr ⟨rfl,Nat.lt_succ_self _⟩⟩) hd⟩
  ·rw[hc n' k' p' e]
   have hiff:LT i k (p+1) n' k' p'↔LT i k p n' k' p':=by
    unfold LT;omega
   exact⟨λhd=>h4.1 (hiff.1 hd),λhd=>h4.2 (λhx=>hd (hiff.2 hx))⟩
theorem Md.drew {W:World}{gR cR:Nat} (h:Md W b L role gR cR gn cn gr cr c):Md W.drew b L role gR cR gn cn gr cr c:=
 ⟨h.rb,h.rR,h.rn,h.rr,h.c0,h.lR,h.names,h.rules,h.parts⟩
structure tP (L:List (List (List Pt))):Prop where
 l4:L.length<=4
 r6:∀rs∈L,rs.length<=6
 p5:∀rs∈L,∀r∈rs,r.length<=5
 ok:∀rs∈L,∀r∈rs,∀p∈r,E9 6 4 p
theorem KV {α:Type}{l:List α}{a:α} (h:l[i]?=some a):a∈l:=by
 obtain⟨h1,h2⟩:=zM.1 h;exact h2▸ot h1
def OD (role:Nat->Option (Nat × Nat)) (w w':World):Prop:=∀g o,role g=none->w'.cell? (af g o)=w.cell? (af g o)
theorem OD.put  (h:OD role w w') {g0:Nat}{x:Nat × Nat} (hg:role g0=some x) (u:Value):OD role w (w'.setCell (af g0 p) u):=λg o hr=>
 (wu _ _ _ _ (λe=>by
  injection e with e _ _
  rw[e,hr]at hg;cases hg)).trans (h g o hr)
theorem q9 (L:List (List (List Pt))) (hs:tP L) (n:Nat) (w:World) (B b:Nat) (role:Nat->Option (Nat × Nat)) (gR cR:Nat) (gn cn:Nat->Nat) (gr cr:Nat->Nat->Nat) (c:Nat->Nat->Nat->Pt)
  (hS:Md w b L role gR cR gn cn gr cr c) (hc:IA n L 0 0 0 c) (hB:∀(n:Nat) rs (k:Nat) r,L[n]?=some rs->rs[k]?=some r->B<=gr n k):
  Calls Tryz.prog 67 #[ac b,ab n] w λe w'=>e=.returned (ac b)/\(∃c,IA n L L.length 0 0 c/\Md w' b L role gR cR gn cn gr cr c)/\OD role w w'/\Below B w w':=by
 have Zf:=hid hs;have Nj:=hid hS;have HC0:=hid hc;have HBg:=hid hB;have hN4:=hs.l4;obtain⟨nN,hn1⟩:=qF (L.length);have H1:Hid (nN=L.length):=hid hn1;rw[<-hn1]at hN4;have Mx:Hid (OD role w w/\Below B w w):=hid ⟨λ_ _ _=>rfl,ah _ _⟩;clear hs hS hc hB hn1
 go_enter Tryz.func67,Tryz.ntmps67
 go_wp2
 go_loopw [5] (λi wr=>∃(j:Nat) (c:Nat->Nat->Nat->Pt),j<=nN/\i=ab j/\Hid (IA n L j 0 0 c)/\Hid (Md wr b L role gR cR gn cn gr cr c)/\Hid (OD role w wr/\Below B w wr)) (λi _=>nN - (intOf i).toNat)
 case atStart=>exact⟨0,c,dh _,rfl,HC0,Nj,Mx⟩
 case round=>
  clear HC0 Nj Mx;obtain⟨i,c1,hi,rfl,hcut,hsh,Da⟩:=hrel;obtain⟨W,hW⟩:=qF (wr);subst hW;have c0:=hsh.out.c0;have lR:=hsh.out.lR;rw[<-H1.out]at c0 lR
  by_cases hlt:i<nN
  ·obtain⟨rs,hrs⟩:∃rs,L[i]?=some rs:=⟨_,gE (by rw[<-H1.out];exact hlt)⟩
   have hr6:=Zf.out.r6 rs (KV hrs);have Fm:Hid (L[i]?=some rs):=hid hrs;obtain⟨nR,Ic⟩:=qF (rs.length);have Jd:Hid (nR=rs.length):=hid Ic;rw[<-Ic]at hr6;clear hrs Ic;go_wp2;clear c0 lR
   go_loopw [6] (λi' wr=>∃(j:Nat) (c:Nat->Nat->Nat->Pt),j<=nR/\i'=ab j/\Hid (IA n L i j 0 c)/\Hid (Md wr b L role gR cR gn cn gr cr c)/\Hid (OD role w wr/\Below B w wr)) (λi _=>nR - (intOf i).toNat)
   case atStart=>exact⟨0,c1,dh _,rfl,hcut,hsh,Da⟩
   case round=>
    clear hcut hsh Da;obtain⟨k,c2,hk,rfl,hcut,hsh,Da⟩:=hrel;obtain⟨W,hW⟩:=qF (wr);subst hW;have c0:=hsh.out.c0;have lR:=hsh.out.lR;rw[<-H1.out]at c0 lR;obtain⟨d0,lN⟩:=hsh.out.names i rs Fm.out;rw[<-Jd.out]at d0 lN
    by_cases hlk:k<nR
    ·obtain⟨r,hr⟩:∃r,rs[k]?=some r:=⟨_,gE (by rw[<-Jd.out];exact hlk)⟩
     have HR:Hid (rs[k]?=some r):=hid hr;have hp5:=Zf.out.p5 rs (KV Fm.out) r (KV hr);obtain⟨np,hnp⟩:=qF (r.length);have Zg:Hid (np=r.length):=hid hnp;rw[<-hnp]at hp5;clear hr hnp;go_wp2;clear c0 lR d0 lN
     go_loopw [7] (λi' wr=>∃(j:Nat) (c:Nat->Nat->Nat->Pt),j<=np/\i'=ab j/\Hid (IA n L i k j c)/\Hid (Md wr b L role gR cR gn cn gr cr c)/\Hid (OD role w wr/\Below B w wr)) (λi _=>np - (intOf i).toNat)
     case atStart=>exact⟨0,c2,dh _,rfl,hcut,hsh,Da⟩
     case round=>
      clear hcut hsh Da;obtain⟨p,c3,hp,rfl,hcut,hsh,Da⟩:=hrel;obtain⟨W,hW⟩:=qF (wr);subst hW;have c0:=hsh.out.c0;have lR:=hsh.out.lR;rw[<-H1.out]at c0 lR;obtain⟨d0,lN⟩:=hsh.out.names i rs Fm.out;rw[<-Jd.out]at d0 lN;obtain⟨d1,lU⟩:=hsh.out.rules i rs k r Fm.out HR.out;rw[<-Zg.out]at d1 lU
      by_cases Ub:p<np
      ·obtain⟨a,ha⟩:∃a,r[p]?=some a:=⟨_,gE (by rw[<-Zg.out];exact Ub)⟩
       have HA:Hid (r[p]?=some a):=hid ha;obtain⟨d2,hfz⟩:=hsh.out.parts i rs k r p a Fm.out HR.out ha;have Dc:=Zf.out.ok rs (KV Fm.out) r (KV HR.out) a (KV ha);rw[(hcut.out.holds i rs k r p a Fm.out HR.out ha).2 (by unfold LT;omega)]at d2;have HST:Hid (a=OA n a->IA n L i k (p+1) c3):=hid λe=>hcut.out.step Fm.out HR.out HA.out (λ_ _ _ _=>rfl) (by rw[(hcut.out.holds i rs k r p a Fm.out HR.out HA.out).2 (by unfold LT;omega)];exact e)
       clear ha;cases a with
       |tok t=>
        have ht:t<6:=Dc;have d3:W.cell? ⟨gr i k,p,none⟩=some (.string (AB t)):=d2;have q1:=X1 t ht;have q2:=WQ t ht;have q3:=WR t ht;have Uc:=hid (HST.out rfl);clear d2 Dc HST;go_wp2
        go_roundw
        case rel=>exact⟨p+1,c3,by omega,by go_num,Uc,hsh,Da⟩
        case measure=>simp[intOf];omega
       |zi u=>
        have hu:u<4:=Dc;have d3:W.cell? ⟨gr i k,p,none⟩=some (.string (BM u)):=d2;have q1:=WP u hu;have q2:=XF u hu;have q3:=OW u;have q4:=WE u hu;have q5:(u:Int) % 256=u:=by omega
        clear d2 Dc
        by_cases Pj:n<=u
        ·have hni:(n:Int)<=(u:Int):=by omega
         clear HST
         rcases q2 with q2 |q2
         all_goals
          go_wp2;refine AH (λw'=>w'.cell? (af b 0)=some (ae gR nN cR)/\w'.cell? (af gR i)=some (.slice (some ⟨gn i,0,none⟩) nR (cn i))/\w'.cell? ⟨gn i,k,none⟩=some (.slice (some ⟨gr i k,0,none⟩) np (cr i k))/\w'.cell? ⟨gr i k,p,none⟩=some (.string (BM u))/\w'.frozen? ⟨gr i k,p,none⟩=false) yM yM ⟨c0,d0,d1,d3,hfz⟩ (λhH=>?_);simp only[AG,BP,AR];refine tB 0 hH ?_;refine tB 1 hH ?_;refine tB 2 hH ?_;refine tB 3 hH ?_;refine tB 4 hH ?_;refine tB 5 hH ?_;refine tB 6 hH ?_;refine tB 7 hH ?_;refine tB 8 hH ?_;refine tB 9 hH ?_;refine tB 10 hH ?_;refine tL ?_;refine tS 11 λK hK=>?_
          refine tM ?_
          go_simp;refine(ID 0 (by omega) _).mono ?_;rintro e w' ⟨rfl,rfl⟩;try dsimp only
          refine hK.out _ _ ?_ λhH=>?_
          ·exact hH
          clear hK K;refine tB 12 hH ?_;refine tB 13 hH ?_;refine tL ?_;refine bq yM ?_ _;clear hH;show wpList _ _ _ _ _ _;go_wp2
          go_roundw
          case rel=>
           have hc':∀n' k' p',¬(n'=i/\k'=k/\p'=p)->(λn' k' p'=>if n'=i/\k'=k/\p'=p then Pt.tok 0 else c3 n' k' p') n' k' p'=c3 n' k' p':=λn' k' p' h=>aq h
           have h1:=hsh.out.put (c':=λn' k' p'=>if n'=i/\k'=k/\p'=p then Pt.tok 0 else c3 n' k' p') Fm.out HR.out HA.out hc';have h2:=hcut.out.step (c':=λn' k' p'=>if n'=i/\k'=k/\p'=p then Pt.tok 0 else c3 n' k' p') Fm.out HR.out HA.out hc' (by
            show(if i=i/\k=k/\p=p then Pt.tok 0 else c3 i k p)=if n<=u then Pt.tok 0 else Pt.zi u
            rw[ay ⟨rfl,rfl,rfl⟩,ay Pj])
           rw[ay (⟨rfl,rfl,rfl⟩:i=i/\k=k/\p=p)]at h1;exact⟨p+1,_,by omega,by go_num,hid h2,hid h1.drew,hid ⟨Da.out.1.put (hsh.out.rr i rs k r Fm.out HR.out) _,(Da.out.2.setCell (p:=⟨gr i k,p,none⟩) (HBg.out i rs k r Fm.out HR.out) _).drew⟩⟩
          case measure=>simp[intOf];omega
        ·have hni:¬(n:Int)<=(u:Int):=by omega
         have Uc:=hid (HST.out (by show Pt.zi u=if n<=u then Pt.tok 0 else Pt.zi u;rw[aq Pj]));clear HST
         rcases q2 with q2 |q2
         all_goals
          go_wp2
          go_roundw
          case rel=>exact⟨p+1,c3,by omega,by go_num,Uc,hsh,Da⟩
          case measure=>simp[intOf];omega
      ·have Uc:Hid (IA n L i (k+1) 0 c3):=hid (hcut.out.same λn' rs' k' r' p' g1 g2 g3=>by
        unfold LT
        by_cases e:n'=i/\k'=k
        ·obtain⟨rfl,rfl⟩:=e
         rw[Fm.out]at g1;injection g1 with g1
         subst g1;rw[HR.out]at g2;injection g2 with g2
         subst g2;rw[<-Zg.out]at g3;omega
        ·omega)
       go_wp2
       go_roundw
       case rel=>exact⟨k+1,c3,by omega,by go_num,Uc,hsh,Da⟩
       case measure=>simp[intOf];omega
    ·have Uc:Hid (IA n L (i+1) 0 0 c2):=hid (hcut.out.same λn' rs' k' r' p' g1 g2 g3=>by
      unfold LT
      by_cases e:n'=i
      ·obtain rfl:=e
       rw[Fm.out]at g1;injection g1 with g1
       subst g1;have:=(zM.1 g2).1;rw[<-Jd.out]at this;omega
      ·omega)
     go_wp2
     go_roundw
     case rel=>exact⟨i+1,c2,by omega,by go_num,Uc,hsh,Da⟩
     case measure=>simp[intOf];omega
  ·have Uc:Hid (IA n L L.length 0 0 c1):=hid (by rw[<-H1.out,show nN=i by omega];exact hcut.out)
   go_wp2;go_ret;exact⟨rfl,⟨c1,Uc.out,hsh.out⟩,Da.out.1,Da.out.2⟩
structure Mk.Pre (m:Mk) (N:Nat):Prop where
 t2:2<=m.zJ.length
 t6:m.zJ.length<=6
 dl:m.Ai.length=m.zJ.length
 sl:m.swaps.length=m.zJ.length
 Zd:∀r∈m.swaps,r.length=m.zJ.length
 p1:∀x∈m.zJ,1<=x/\x<=9
 d1:∀x∈m.Ai,1<=x/\x<=9
 s1:∀r∈m.swaps,∀x∈r,x<=9
 Ze:∀(i:Nat) r,m.swaps[i]?=some r->r.getD i 0=0
 n1:1<=m.rules.length
 nN:m.rules.length<=N
 n4:N<=4
 c1:∀rs∈m.rules,1<=rs.length/\rs.length<=m.zJ.length
 head:∀rs∈m.rules,∀(k:Nat) r,rs[k]?=some r->r.head?=some (.tok k)/\r.length<=5
 part:∀rs∈m.rules,∀r∈rs,∀p∈r,E9 m.zJ.length N p
 last:∀rs∈m.rules,∀r,rs.getLast?=some r->∀p∈r,∃t,p=.tok t
 reach:∀(n:Nat) rs,m.rules[n]?=some rs->n+1<m.rules.length->∃r,rs[0]?=some r/\ .zi (n+1)∈r
theorem Mk.Pre.good  (h:m.Pre m.rules.length):m.Good:=
 ⟨h.t2,h.t6,h.dl,h.sl,h.Zd,h.p1,h.d1,h.s1,h.Ze,h.n1,h.n4,h.c1,h.head,h.part,h.last,h.reach⟩
def JC (n:Nat) (L:List (List (List Pt))):List (List (List Pt)):=L.map λrs=>rs.map λr=>r.map (OA n)
def Mk.cut (m:Mk):Mk:={m with rules:=JC m.rules.length m.rules}
theorem uR  (h:(JC n L)[i]?=some rs):∃qs,L[i]?=some qs/\rs=qs.map λr=>r.map (OA n):=by
 unfold JC at h;rw[gM]at h;cases hq:L[i]? with
 |none=>rw[hq]at h;cases h
 |some qs=>rw[hq]at h;injection h with h;exact⟨qs,rfl,h.symm⟩
theorem PY  (h:rs∈JC n L):∃qs∈L,rs=qs.map λr=>r.map (OA n):=by
 unfold JC at h;obtain⟨qs,h1,h2⟩:=dm.1 h;exact⟨qs,h1,h2.symm⟩
theorem Mk.Pre.aio {N:Nat} (h:m.Pre N):m.cut.Good where
 t2:=h.t2
 t6:=h.t6
 dl:=h.dl
 sl:=h.sl
 Zd:=h.Zd
 p1:=h.p1
 d1:=h.d1
 s1:=h.s1
 Ze:=h.Ze
 n1:=by show 1<=(JC _ _).length;unfold JC;rw[lM];exact h.n1
 n4:=by show(JC _ _).length<=4;unfold JC;rw[lM];exact zV h.nN h.n4
 c1:=λrs hrs=>by
  obtain⟨qs,hq,rfl⟩:=PY hrs;rw[lM];exact h.c1 qs hq
 head:=λrs hrs k r hr=>by
  obtain⟨qs,hq,rfl⟩:=PY hrs;rw[gM]at hr;cases hqk:qs[k]? with
  |none=>rw[hqk]at hr;cases hr
  |some q=>
   rw[hqk]at hr;injection hr with hr
   subst hr;obtain⟨h1,h2⟩:=h.head qs hq k q hqk;rw[lM,List.head?_map,h1];exact⟨rfl,h2⟩
 part:=λrs hrs r hr p hp=>by
  have hl:m.cut.rules.length=m.rules.length:=by show(JC _ _).length=_;unfold JC;rw[lM]
  rw[hl];obtain⟨qs,hq,rfl⟩:=PY hrs;obtain⟨q,hqr,rfl⟩:=dm.1 hr;obtain⟨a,ha,rfl⟩:=dm.1 hp;have Dc:=h.part qs hq q hqr a ha;have ht:=h.t2;cases a with
  |tok t=>exact Dc
  |zi k=>
   show E9 _ _ (if m.rules.length<=k then Pt.tok 0 else Pt.zi k);split
   ·show 0<m.zJ.length;omega
   ·show k<m.rules.length;omega
 last:=λrs hrs r hr p hp=>by
  obtain⟨qs,hq,rfl⟩:=PY hrs;rw[List.getLast?_map]at hr;cases Zh:qs.getLast? with
  |none=>rw[Zh]at hr;cases hr
  |some q=>
   rw[Zh]at hr;injection hr with hr
   subst hr;obtain⟨a,ha,rfl⟩:=dm.1 hp;obtain⟨t,rfl⟩:=h.last qs hq q Zh a ha;exact⟨t,rfl⟩
 reach:=λn rs hrs hn=>by
  have hl:m.cut.rules.length=m.rules.length:=by show(JC _ _).length=_;unfold JC;rw[lM]
  rw[hl]at hn;obtain⟨qs,hq,rfl⟩:=uR hrs;obtain⟨r,hr,hm⟩:=h.reach n qs hq hn;refine⟨r.map (OA m.rules.length),by rw[gM,hr];rfl,dm.2 ⟨_,hm,?_⟩⟩;show(if m.rules.length<=n+1 then Pt.tok 0 else Pt.zi (n+1))=_;rw[aq (by omega)]
def Rj (w:World) (S:List Nat) (t:Nat):Prop:=∀g c,w.heap[g]?=some (.cells c t (0,0))->g∉S
theorem FK {e sz:Nat}{xs:List Value} (h:w.ownsRow B e sz v n xs) (ho:Rj w S e):∀g,v.ownBlock=some g->g∉S:=λg hg=>by
 obtain⟨c,hc⟩:=BQ h hg;exact ho g c hc
theorem AO {e e' sz:Nat}{xs:List Value} (h:w.ownsRow B e' sz v n xs) (hne:e≠e'):Rj w v.ownBlock.toList e:=λg c hc hm=>by
 obtain⟨c',hc'⟩:=BQ h (BJ hm);rw[hc]at hc';injection hc' with hc'
 injection hc' with _ he
 exact hne he
theorem I9 (w:World) (e:Nat):Rj w [] e:=λg c _ hm=>by cases hm
theorem GI {a:Nat}{c d:Array Value}{s:Nat}{fr fr':Nat × Nat} (ha:w.heap[a]?=some (.cells c s fr)) (hb:w.heap[b]?=some (.cells d t fr')) (h:s≠t):a≠b:=λe=>by
 subst e;rw[ha]at hb;injection hb with hb
 injection hb with _ hb
 exact h hb
section
def IZ (l:List Nat):List Value:=l.map fun(x:Nat)=>ab (x:Int)
structure F7 (w:World) (B b T:Nat) (pu dr:List Nat) (sw:List (List Nat)) (vR vP vD vS:Value) (sg:Nat->Nat):Prop where
 blk:w.heap[b]?=some (.cells #[vR,vP,vD,vS] 77 (0,0))
 hb:B<=b
 zJ:w.ownsRow B 3 1 vP pu.length (IZ pu)
 Ai:w.ownsRow B 3 1 vD dr.length (IZ dr)
 swaps:w.ownsRow B 45 1 vS sw.length ((List.range sw.length).map λi=>Value.slice (some ⟨sg i,0,none⟩) T T)
 rows:∀(i:Nat) r,sw[i]?=some r->w.heap[sg i]?=some (.cells (IZ r).toArray 3 (0,0))/\B<=sg i/\r.length=T
 pd:∀g,vP.ownBlock=some g->vD.ownBlock≠some g
 ps:∀(i:Nat),i<sw.length->vP.ownBlock≠some (sg i)/\vD.ownBlock≠some (sg i)
 inj:∀(i j:Nat),i<sw.length->j<sw.length->sg i=sg j->i=j
section
variable {w w1:World}{B b T:Nat}{pu dr:List Nat}{sw:List (List Nat)}{vR vP vD vS:Value}{sg:Nat->Nat}
theorem F7.cells (h:F7 w B b T pu dr sw vR vP vD vS sg):w.cell? (af b 0)=some vR/\w.cell? (af b 1)=some vP/\w.cell? (af b 2)=some vD/\w.cell? (af b 3)=some vS:=
 ⟨A0 h.blk,A0 h.blk,A0 h.blk,A0 h.blk⟩
theorem F7.keeps  (h:F7 w B b T pu dr sw vR vP vD vS sg) (hk:A5 w w1 S) (hi:Rj w S 3) (hs:Rj w S 45) (hm:Rj w S 77):F7 w1 B b T pu dr sw vR vP vD vS sg where
 blk:=(hk.block b (ak h.blk) (hm b _ h.blk)).trans h.blk
 hb:=h.hb
 zJ:=AC h.zJ hk (FK h.zJ hi)
 Ai:=AC h.Ai hk (FK h.Ai hi)
 swaps:=AC h.swaps hk (FK h.swaps hs)
 rows:=λi r hr=>by
  obtain⟨h1,h2,h3⟩:=h.rows i r hr;exact⟨(hk.block _ (ak h1) (hi _ _ h1)).trans h1,h2,h3⟩
 pd:=h.pd
 ps:=h.ps
 inj:=h.inj
theorem F7.below (h:F7 w B b T pu dr sw vR vP vD vS sg) (hb:Below w.heap.size w w1):F7 w1 B b T pu dr sw vR vP vD vS sg:=
 h.keeps (A5.zQ hb []) (I9 _ _) (I9 _ _) (I9 _ _)
theorem F7.aip  (h:F7 w B b T pu dr sw vR vP vD vS sg) (hk:A5 w w1 vP.ownBlock.toList) (hg:vP.ownBlock=some g\/w.heap.size<=g)
  (hown:w1.ownsRow B 3 1 (ae g (pu.length+1) cap) (pu.length+1) (IZ pu++ [ab (x:Int)])):
  F7 (w1.setCell (af b 1) (ae g (pu.length+1) cap)) B b T (pu++ [x]) dr sw vR (ae g (pu.length+1) cap) vD vS sg:=by
 have hb1:=(hk.block b (ak h.blk) (λhm=>A9 h.zJ h.blk (by decide) (BJ hm))).trans h.blk;have hgd:vD.ownBlock≠some g:=λe=>by
  rcases hg with hg |hg
  ·exact h.pd g hg e
  ·have:=D8 h.Ai e;omega
 have Ka:∀i,i<sw.length->g≠sg i:=λi hi e=>by
  obtain⟨r,hr⟩:∃r,sw[i]?=some r:=⟨_,gE hi⟩;have h1:=ak (h.rows i r hr).1
  rcases hg with hg |hg
  ·exact(h.ps i hi).1 (by rw[hg,e])
  ·omega
 refine⟨AA hb1 _,h.hb,?_,?_,?_,λi r hr=>?_,λg' hg'=>?_,λi hi=>⟨λe=>?_,(h.ps i hi).2⟩,h.inj⟩
 ·have e:IZ (pu++ [x])=IZ pu++ [ab (x:Int)]:=by simp[IZ]
  rw[e,lA];exact CZ hown hb1 (by decide)
 ·exact JU h.Ai hk (λg' hg' hm=>h.pd g' (BJ hm) hg') (λg' hg' e=>A9 h.Ai h.blk (by decide) (e▸hg'))
 ·exact JU h.swaps hk (FK h.swaps (AO h.zJ (by decide))) (λg' hg' e=>A9 h.swaps h.blk (by decide) (e▸hg'))
 ·obtain⟨h1,h2,h3⟩:=h.rows i r hr
  have hi:=(zM.1 hr).1;have hne:sg i≠b:=GI h1 h.blk (by decide);exact⟨(je _ _ _ _ (by exact hne)).trans ((hk.block _ (ak h1) (λhm=>(h.ps i hi).1 (BJ hm))).trans h1),h2,h3⟩
 ·have:g'=g:=by simpa[Value.ownBlock] using hg'.symm
  rw[this];exact hgd
 ·exact Ka i hi (by simpa[Value.ownBlock] using e)
theorem F7.aiq  (h:F7 w B b T pu dr sw vR vP vD vS sg) (hk:A5 w w1 vD.ownBlock.toList) (hg:vD.ownBlock=some g\/w.heap.size<=g)
  (hown:w1.ownsRow B 3 1 (ae g (dr.length+1) cap) (dr.length+1) (IZ dr++ [ab (x:Int)])):
  F7 (w1.setCell (af b 2) (ae g (dr.length+1) cap)) B b T pu (dr++ [x]) sw vR vP (ae g (dr.length+1) cap) vS sg:=by
 have hb1:=(hk.block b (ak h.blk) (λhm=>A9 h.Ai h.blk (by decide) (BJ hm))).trans h.blk;have hgd:vP.ownBlock≠some g:=λe=>by
  rcases hg with hg |hg
  ·exact h.pd g e hg
  ·have:=D8 h.zJ e;omega
 have Ka:∀i,i<sw.length->g≠sg i:=λi hi e=>by
  obtain⟨r,hr⟩:∃r,sw[i]?=some r:=⟨_,gE hi⟩;have h1:=ak (h.rows i r hr).1
  rcases hg with hg |hg
  ·exact(h.ps i hi).2 (by rw[hg,e])
  ·omega
 refine⟨AA hb1 _,h.hb,?_,?_,?_,λi r hr=>?_,λg' hg'=>?_,λi hi=>⟨(h.ps i hi).1,λe=>?_⟩,h.inj⟩
 ·exact JU h.zJ hk (λg' hg' hm=>h.pd g' hg' (BJ hm)) (λg' hg' e=>A9 h.zJ h.blk (by decide) (e▸hg'))
 ·have e:IZ (dr++ [x])=IZ dr++ [ab (x:Int)]:=by simp[IZ]
  rw[e,lA];exact CZ hown hb1 (by decide)
 ·exact JU h.swaps hk (FK h.swaps (AO h.Ai (by decide))) (λg' hg' e=>A9 h.swaps h.blk (by decide) (e▸hg'))
 ·obtain⟨h1,h2,h3⟩:=h.rows i r hr
  have hi:=(zM.1 hr).1;have hne:sg i≠b:=GI h1 h.blk (by decide);exact⟨(je _ _ _ _ (by exact hne)).trans ((hk.block _ (ak h1) (λhm=>(h.ps i hi).2 (BJ hm))).trans h1),h2,h3⟩
 ·intro e
  have:g=g':=by simpa[Value.ownBlock] using e
  rw[this]at hgd;exact hgd hg'
 ·exact Ka i hi (by simpa[Value.ownBlock] using e)
theorem F7.air  (h:F7 w B b T pu dr sw vR vP vD vS sg) (hBw:B<=w.heap.size) (hl:sw.length=pu.length - 1) {w2:World}
  (hz:w1.heap[w.heap.size]?=some (.cells (IZ (List.replicate T 0)).toArray 3 (0,0))) (hw1:A5 w w1 []) (hk:A5 w1 w2 vS.ownBlock.toList)
  (hown:w2.ownsRow B 45 1 (ae g (sw.length+1) cap) (sw.length+1) (((List.range sw.length).map λi=>Value.slice (some ⟨sg i,0,none⟩) T T)++ [ae w.heap.size T T])):
  F7 (w2.setCell (af b 3) (ae g (sw.length+1) cap)) B b T pu dr (sw++ [List.replicate T 0]) vR vP vD (ae g (sw.length+1) cap) (λi=>if i=sw.length then w.heap.size else sg i):=by
 have h':=h.keeps hw1 (I9 _ _) (I9 _ _) (I9 _ _);have hb1:=(hk.block b (ak h'.blk) (λhm=>A9 h'.swaps h'.blk (by decide) (BJ hm))).trans h'.blk;have hold:∀i,i<sw.length->sg i<w.heap.size:=λi hi=>by
  obtain⟨r,hr⟩:∃r,sw[i]?=some r:=⟨_,gE hi⟩;exact ak (h.rows i r hr).1
 have hrow:∀(q:Nat) (c:Array Value),w1.heap[q]?=some (Obj.cells c 3 (0,0))->(w2.setCell (af b 3) (ae g (sw.length+1) cap)).heap[q]?=some (Obj.cells c 3 (0,0)):=λq c hq=>by
  have hne:q≠b:=GI hq h'.blk (by decide);exact(je _ _ _ _ (by exact hne)).trans ((hk.block _ (ak hq) (AO h'.swaps (by decide) q c hq)).trans hq)
 refine⟨AA hb1 _,h.hb,?_,?_,?_,λi r hr=>?_,h.pd,λi hi=>?_,λi j hi hj e=>?_⟩
 ·exact JU h'.zJ hk (FK h'.zJ (AO h'.swaps (by decide))) (λg' hg' e=>A9 h'.zJ h'.blk (by decide) (e▸hg'))
 ·exact JU h'.Ai hk (FK h'.Ai (AO h'.swaps (by decide))) (λg' hg' e=>A9 h'.Ai h'.blk (by decide) (e▸hg'))
 ·have e:((List.range (sw++ [List.replicate T 0]).length).map λi=>Value.slice (some ⟨if i=sw.length then w.heap.size else sg i,0,none⟩) T T)=((List.range sw.length).map λi=>Value.slice (some ⟨sg i,0,none⟩) T T)++ [ae w.heap.size T T]:=by
   rw[lA,fu,uw,fq]
   congr 1
   ·apply mj
    intro i hi;rw[aq (by have:=jc.1 hi;omega)]
   ·simp
  rw[e,lA];exact CZ hown hb1 (by decide)
 ·by_cases hi:i<sw.length
  ·rw[aL hi]at hr
   obtain⟨h1,h2,h3⟩:=h'.rows i r hr;simp only[aq (show ¬i=sw.length by omega)];exact⟨hrow _ _ h1,h2,h3⟩
  ·rw[Bc (by omega)]at hr
   obtain⟨hl2,e⟩:=zM.1 hr;simp only[fu]at hl2;have hi':i=sw.length:=by omega
   subst hi';simp only[ku,qa]at e;subst e;simp only[ay];exact⟨hrow _ _ hz,hBw,by simp⟩
 ·rw[lA,fu]at hi
  by_cases hi':i=sw.length
  ·subst hi'
   simp only[ay];exact⟨λe=>by have:=D8 h.zJ e;omega,λe=>by have:=D8 h.Ai e;omega⟩
  ·simp only[aq hi']
   exact h.ps i (by omega)
 ·rw[lA,fu]at hi hj
  by_cases hi':i=sw.length
  ·by_cases hj':j=sw.length
   ·omega
   ·simp only[ay hi',aq hj']at e
    have:=hold j (by omega);omega
  ·by_cases hj':j=sw.length
   ·simp only[aq hi',ay hj']at e
    have:=hold i (by omega);omega
   ·simp only[aq hi',aq hj']at e
    exact h.inj i j (by omega) (by omega) e
theorem F7.ais {j:Nat}{r:List Nat} (h:F7 w B b T pu dr sw vR vP vD vS sg) (hr:sw[i]?=some r):
  F7 (w.setCell ⟨sg i,j,none⟩ (ab (x:Int))) B b T pu dr (sw.set i (r.set j x)) vR vP vD vS sg:=by
 obtain⟨h1,h2,h3⟩:=h.rows i r hr;have hi:=(zM.1 hr).1;have hne:sg i≠b:=GI h1 h.blk (by decide);have hs:(sw.set i (r.set j x)).length=sw.length:=yu ..;refine⟨(je _ _ _ _ (by exact λe=>hne e.symm)).trans h.blk,h.hb,?_,?_,?_,λi' r' hr'=>?_,h.pd,λi' hi'=>h.ps i' (by omega),λa c ha hc=>h.inj a c (by omega) (by omega)⟩
 ·exact ur h.zJ (h.ps i hi).1 _
 ·exact ur h.Ai (h.ps i hi).2 _
 ·rw[hs];exact CZ h.swaps h1 (by decide)
 ·by_cases e:i'=i
  ·subst e
   rw[List.getElem?_set_self hi]at hr';injection hr' with hr'
   subst hr';refine⟨?_,h2,by rw[yu];exact h3⟩;rw[AA h1]
   congr 2
   apply Array.ext';simp[IZ,List.map_set]
  ·rw[List.getElem?_set_ne (λe2=>e e2.symm)]at hr'
   obtain⟨k1,k2,k3⟩:=h.rows i' r' hr';have hi2:=(zM.1 hr').1;exact⟨(je _ _ _ _ (by exact λe2=>e (h.inj _ _ hi2 hi e2))).trans k1,k2,k3⟩
end
end
def Ff (r:List Pt):List Value:=r.map λp=>Value.string (EG p)
structure Dd (w:World) (B:Nat) (v:Value) (rs:List (List Pt)) (gk ck:Nat->Nat):Prop where
 row:w.ownsRow B 39 1 v rs.length ((List.range rs.length).map λk=>Value.slice (some ⟨gk k,0,none⟩) ((rs.getD k []).length) (ck k))
 each:∀(k:Nat) r,rs[k]?=some r->w.ownsRow B 9 1 (.slice (some ⟨gk k,0,none⟩) r.length (ck k)) r.length (Ff r)
theorem Dd.keeps  (h:Dd w B v rs gk ck) (hk:A5 w w1 S) (h1:Rj w S 39) (h2:∀k,k<rs.length->gk k∉S):Dd w1 B v rs gk ck:=
 ⟨AC h.row hk (FK h.row h1),λk r hr=>AC (h.each k r hr) hk (λg hg hm=>by
  have:g=gk k:=by simpa[Value.ownBlock] using hg.symm
  exact h2 k (zM.1 hr).1 (this▸hm))⟩
theorem Dd.setOther {gb j:Nat}{u:Value}{cs:Array Value}{fr:Nat × Nat} (h:Dd w B v rs gk ck) (hb:w.heap[gb]?=some (.cells cs t fr)) (h1:39≠t) (h2:9≠t):Dd (w.setCell (af gb j) u) B v rs gk ck:=
 ⟨CZ h.row hb h1,λk r hr=>CZ (h.each k r hr) hb h2⟩
theorem Dd.lt  (h:Dd w B v rs gk ck)  (hk:k<rs.length):B<=gk k/\gk k<w.heap.size:=by
 obtain⟨r,hr⟩:∃r,rs[k]?=some r:=⟨_,gE hk⟩;exact(h.each k r hr).lt (gk k) rfl
theorem VA {α:Type} (n:Nat) (f f':Nat->α) (h:∀i,i<n->f' i=f i):(List.range (n+1)).map f'=(List.range n).map f++ [f' n]:=by
 rw[uw,fq]
 congr 1
 exact mj λi hi=>h i (jc.1 hi)
theorem Dd.push {c g':Nat} (h:Dd w B v rs gk ck) (hr:w.ownsRow B 9 1 (ae g r.length c) r.length (Ff r)) (hk:A5 w w1 v.ownBlock.toList)
  (hown:w1.ownsRow B 39 1 (ae g' (rs.length+1) cap) (rs.length+1) (((List.range rs.length).map λk=>Value.slice (some ⟨gk k,0,none⟩) ((rs.getD k []).length) (ck k))++ [ae g r.length c])):
  Dd w1 B (ae g' (rs.length+1) cap) (rs++ [r]) (λk=>if k=rs.length then g else gk k) (λk=>if k=rs.length then c else ck k):=by
 have abp:∀{q:Value}{n:Nat}{xs:List Value},w.ownsRow B 9 1 q n xs->w1.ownsRow B 9 1 q n xs:=λhq=>AC hq hk (FK hq (AO h.row (by decide)))
 refine⟨?_,λk q hq=>?_⟩
 ·rw[lA,fu]
  rw[VA rs.length (λk=>Value.slice (some ⟨gk k,0,none⟩) ((rs.getD k []).length) (ck k))]
  ·simp only[ay,Af,List.getElem?_concat_length,jq]
   simp only[Af]at hown;exact hown
  ·intro i hi
   simp only[aq (show ¬i=rs.length by omega),Af,aL hi]
 ·by_cases hi:k<rs.length
  ·rw[aL hi]at hq
   simp only[aq (show ¬k=rs.length by omega)];exact abp (h.each k q hq)
  ·rw[Bc (by omega)]at hq
   obtain⟨hl,e⟩:=zM.1 hq;simp only[fu]at hl;have hk':k=rs.length:=by omega
   subst hk';simp only[ku,qa]at e;subst e;simp only[ay];exact abp hr
structure Ie (w:World) (B:Nat) (v:Value) (L:List (List (List Pt))) (gn cn:Nat->Nat) (gr cr:Nat->Nat->Nat):Prop where
 row:w.ownsRow B 46 1 v L.length ((List.range L.length).map λn=>Value.slice (some ⟨gn n,0,none⟩) ((L.getD n []).length) (cn n))
 each:∀(n:Nat) rs,L[n]?=some rs->Dd w B (.slice (some ⟨gn n,0,none⟩) rs.length (cn n)) rs (gr n) (cr n)
 inj:∀(n k n' k':Nat) rs rs',L[n]?=some rs->k<rs.length->L[n']?=some rs'->k'<rs'.length->gr n k=gr n' k'->n=n'/\k=k'
theorem Ie.keeps  (h:Ie w B v L gn cn gr cr) (hk:A5 w w1 S) (h0:Rj w S 46) (h1:∀n,n<L.length->gn n∉S) (h2:∀n rs k,L[n]?=some rs->k<rs.length->gr n k∉S):Ie w1 B v L gn cn gr cr where
 row:=AC h.row hk (FK h.row h0)
 each:=λn rs hn=>⟨AC (h.each n rs hn).row hk (λg hg hm=>by
   have:g=gn n:=by simpa[Value.ownBlock] using hg.symm
   exact h1 n (zM.1 hn).1 (this▸hm)),
  λk r hr=>AC ((h.each n rs hn).each k r hr) hk (λg hg hm=>by
   have:g=gr n k:=by simpa[Value.ownBlock] using hg.symm
   exact h2 n rs k hn (zM.1 hr).1 (this▸hm))⟩
 inj:=h.inj
end Go.Proofs.YtjjggdcnpndgjaaGreatDoor
