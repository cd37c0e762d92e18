import Derived.Test.YtjjggdcnpndgjaaGreatDoorHJ27
set_option linter.unusedSimpArgs false
set_option maxHeartbeats 4000000
set_option maxRecDepth 100000
namespace Go.Proofs.YtjjggdcnpndgjaaGreatDoor
open Go.RowKit Go.Shelf
variable {B i j k n q:Nat}{f nm ta y9:Nat->Wt}{p:Pt}{w w':World}
section
def U3 (a b:Wt):Bool:=decide (a.1<b.1)||(decide (a.1=b.1)&&decide (a.2<b.2))
def BK (a b:Wt):Wt:=if U3 b a then b else a
theorem YD {a b:Wt}:U3 a b=true↔¬zq b a:=by
 unfold U3 zq;simp only[oa,fu,ia];omega
theorem QM (a b:Wt):zq (BK a b) a:=by
 unfold BK;split
 ·rename_i h
  have:=YD.1 h;unfold zq at*;omega
 ·exact FP a
theorem bU (a b:Wt):zq (BK a b) b:=by
 unfold BK;split
 ·exact FP b
 ·rename_i h
  have:¬¬zq a b:=λh2=>h (YD.2 h2)
  exact Classical.not_not.1 this
theorem S4 (a b:Wt):BK a b=a\/BK a b=b:=by
 unfold BK;split <;> simp
def AK (f:Nat->Nat->Nat->Wt) (i k:Nat) (g:Nat->Wt):Nat->Nat->Nat->Wt:=λn a b=>if a=i/\b=k then g n else f n a b
def AY (g:Nat->Wt) (n:Nat) (v:Wt):Nat->Wt:=λm=>if m=n then v else g m
theorem fC {g:Nat->Wt}{v:Wt} (h:zq v (g n)) (m:Nat):zq (AY g n v m) (g m):=by
 unfold AY;split
 ·rename_i e;rw[e];exact h
 ·exact FP _
theorem gH {f:Nat->Nat->Nat->Wt}{g g':Nat->Wt} (h:∀m,zq (g' m) (g m)) (n a b:Nat):zq (AK f i k g' n a b) (AK f i k g n a b):=by
 unfold AK;split
 ·exact h n
 ·exact FP _
section
variable (N:NG) (tl:Nat->Option (List Pt)) (hd:Nat->Nat->Prop) (row:List Nat) (cn ct:Nat->Nat->Nat->Wt) (i k:Nat)
def ES (nm ta:Nat->Wt) (p:Pt) (q j:Nat):Wt:=D3 N row (AK cn i k nm) (AK ct i k ta) p q i j k
structure Ga (nm ta:Nat->Wt):Prop where
 Hr:∀q,tl q=some []->ta q=if i=k then(0,0)else(AC,0)
 cut:∀q p ps j,tl q=some (p::ps)->i<j->j<k->zq (ta q) (ES N row cn ct i k nm ta p q j)
 Mg:∀q p ps,tl q=some (p::ps)->ta q=(AC,0)\/∃j,i<=j/\j<=k/\zq (ES N row cn ct i k nm ta p q j) (ta q)
 Nv:∀n,n<N.nN->nm n=(AC,0)\/∃q,hd n q/\zq (named (ta q)) (nm n)
variable {N tl hd row cn ct i k}
theorem jT {f g:Nat->Nat->Nat->Wt} (h:∀n a b,zq (f n a b) (g n a b)) (p:Pt) (a b:Nat):zq (CZ N row f p a b) (CZ N row g p a b):=by
 cases p with
 |tok t=>exact FP _
 |yB n=>exact h n a b
theorem YO {nm':Nat->Wt} (h:∀n,zq (nm' n) (nm n)) (h':∀n,zq (y9 n) (ta n)) (p:Pt) (q j:Nat):zq (ES N row cn ct i k nm' y9 p q j) (ES N row cn ct i k nm ta p q j):=
 XZ (jT (gH h) p i j) (gH h' (q+1) j k)
theorem VD {nm':Nat->Wt} (h1:i<j) (h2:j<k):ES N row cn ct i k nm' y9 p q j=ES N row cn ct i k nm ta p q j:=by
 unfold ES D3;have e1:CZ N row (AK cn i k nm') p i j=CZ N row (AK cn i k nm) p i j:=by
  cases p with
  |tok t=>rfl
  |yB n=>show AK cn i k nm' n i j=AK cn i k nm n i j;unfold AK;rw[au (by omega),au (by omega)]
 have e2:AK ct i k y9 (q+1) j k=AK ct i k ta (q+1) j k:=by unfold AK;rw[au (by omega),au (by omega)]
 rw[e1,e2]
theorem Ga.tail  (h:Ga N tl hd row cn ct i k nm ta) {ps:List Pt} (hq:tl q=some (p::ps))  (hj:i<=j) (hj':j<=k):
  Ga N tl hd row cn ct i k nm (AY ta q (BK (ta q) (ES N row cn ct i k nm ta p q j))):=by
 have hle:∀m,zq (AY ta q (BK (ta q) (ES N row cn ct i k nm ta p q j)) m) (ta m):=fC (QM _ _);have hm:∀p' q' j',zq (ES N row cn ct i k nm (AY ta q (BK (ta q) (ES N row cn ct i k nm ta p q j))) p' q' j') (ES N row cn ct i k nm ta p' q' j'):=λp' q' j'=>YO (λ_=>FP _) hle p' q' j'
 refine⟨λq' Bj=>?_,λq' p' ps' j' Bj h1 h2=>?_,λq' p' ps' Bj=>?_,λn hn=>?_⟩
 ·have:q'≠q:=λe=>by rw[e,hq]at Bj;cases Bj
  unfold AY;rw[au this];exact h.Hr q' Bj
 ·rw[VD (nm':=nm) (y9:=AY ta q _) (nm:=nm) (ta:=ta) h1 h2]
  exact GI (hle q') (h.cut q' p' ps' j' Bj h1 h2)
 ·by_cases e:q'=q
  ·subst e
   rw[hq]at Bj;injection Bj with Bj
   injection Bj with e1 e2
   subst e1;have es:AY ta q' (BK (ta q') (ES N row cn ct i k nm ta p q' j)) q'=BK (ta q') (ES N row cn ct i k nm ta p q' j):=by unfold AY;rw[aq rfl]
   rcases S4 (ta q') (ES N row cn ct i k nm ta p q' j)with e3 |e3
   ·rcases h.Mg q' p ps hq with h1 | ⟨j',h1,h2,h3⟩
    ·exact .inl (by rw[es,e3];exact h1)
    ·exact .inr ⟨j',h1,h2,by rw[es,e3];rw[e3]at hm;exact GI (hm p q' j') h3⟩
   ·refine .inr ⟨j,hj,hj',?_⟩
    rw[es];exact GI (hm p q' j) (by rw[e3];exact FP _)
  ·have es:AY ta q (BK (ta q) (ES N row cn ct i k nm ta p q j)) q'=ta q':=by unfold AY;rw[au e]
   rcases h.Mg q' p' ps' Bj with h1 | ⟨j',h1,h2,h3⟩
   ·exact .inl (by rw[es];exact h1)
   ·exact .inr ⟨j',h1,h2,by rw[es];exact GI (hm p' q' j') h3⟩
 ·rcases h.Nv n hn with h1 | ⟨q',h1,h2⟩
  ·exact .inl h1
  ·exact .inr ⟨q',h1,GI (XZ (hle q') (FP _)) h2⟩
theorem Ga.name  (h:Ga N tl hd row cn ct i k nm ta)  (hq:hd n q):
  Ga N tl hd row cn ct i k (AY nm n (BK (nm n) (named (ta q)))) ta:=by
 have hle:∀m,zq (AY nm n (BK (nm n) (named (ta q))) m) (nm m):=fC (QM _ _);have hm:∀p' q' j',zq (ES N row cn ct i k (AY nm n (BK (nm n) (named (ta q)))) ta p' q' j') (ES N row cn ct i k nm ta p' q' j'):=λp' q' j'=>YO hle (λ_=>FP _) p' q' j'
 refine⟨h.Hr,λq' p' ps' j' Bj h1 h2=>?_,λq' p' ps' Bj=>?_,λm hm'=>?_⟩
 ·rw[VD (nm':=AY nm n _) (y9:=ta) (nm:=nm) (ta:=ta) h1 h2]
  exact h.cut q' p' ps' j' Bj h1 h2
 ·rcases h.Mg q' p' ps' Bj with h1 | ⟨j',h1,h2,h3⟩
  ·exact .inl h1
  ·exact .inr ⟨j',h1,h2,GI (hm p' q' j') h3⟩
 ·by_cases e:m=n
  ·subst e
   have es:AY nm m (BK (nm m) (named (ta q))) m=BK (nm m) (named (ta q)):=by unfold AY;rw[aq rfl]
   rw[es]
   rcases S4 (nm m) (named (ta q))with e3 |e3
   ·rw[e3];exact h.Nv m hm'
   ·rw[e3];exact .inr ⟨q,hq,FP _⟩
  ·have es:AY nm n (BK (nm n) (named (ta q))) m=nm m:=by unfold AY;rw[au e]
   rw[es];exact h.Nv m hm'
def I8 (N:NG) (tl:Nat->Option (List Pt)) (row:List Nat) (cn ct:Nat->Nat->Nat->Wt) (i k:Nat) (nm ta:Nat->Wt) (q0:Nat):Prop:=
 ∀q p ps,q0<=q->tl q=some (p::ps)->zq (ta q) (ES N row cn ct i k nm ta p q i)/\zq (ta q) (ES N row cn ct i k nm ta p q k)
theorem LW  (h:y9 (q+1)=ta (q+1)):ES N row cn ct i k nm y9 p q j=ES N row cn ct i k nm ta p q j:=by
 unfold ES D3;have:AK ct i k y9 (q+1) j k=AK ct i k ta (q+1) j k:=by unfold AK;rw[h]
 rw[this]
theorem I8.step {ps:List Pt} (h:I8 N tl row cn ct i k nm ta (q+1)) (hq:tl q=some (p::ps)) (ho:∀m,m≠q->y9 m=ta m)
  (he:y9 q=BK (BK (ta q) (ES N row cn ct i k nm ta p q i)) (ES N row cn ct i k nm ta p q k)):I8 N tl row cn ct i k nm y9 q:=by
 intro q' p' ps' hle Bj
 by_cases e:q'=q
 ·subst e
  rw[hq]at Bj;injection Bj with Bj
  injection Bj with e1 _
  subst e1;rw[LW (ta:=ta) (ho _ (by omega)),LW (ta:=ta) (ho _ (by omega)),he];exact⟨GI (QM _ _) (bU _ _),bU _ _⟩
 ·have h1:=h q' p' ps' (by omega) Bj
  rw[LW (ta:=ta) (ho _ (by omega)),LW (ta:=ta) (ho _ (by omega)),ho _ e];exact h1
theorem I8.skip  (h:I8 N tl row cn ct i k nm ta (q+1)) (hq:∀p ps,tl q≠some (p::ps)):I8 N tl row cn ct i k nm ta q:=by
 intro q' p' ps' hle Bj;have:q'≠q:=λe=>hq p' ps' (e▸Bj)
 exact h q' p' ps' (by omega) Bj
theorem ago {P:Prop} (h:P:=by
  obtain⟨k1,k2⟩:=he q p ps (bu _) hq
  by_cases e1:j=i
  ·subst e1;exact k1
  ·by_cases e2:j=k
   ·subst e2;exact k2
   ·exact h.cut q p ps j hq (by omega) (by omega)):P:=h
theorem Ga.done  (h:Ga N tl hd row cn ct i k nm ta) (he:I8 N tl row cn ct i k nm ta 0) (hn:∀n q,hd n q->zq (nm n) (named (ta q))):
  EH N tl hd row (AK cn i k nm) (AK ct i k ta) i k where
 cut:=λq p ps j hq h1 h2=>by
  have e:AK ct i k ta q i k=ta q:=by unfold AK;rw[aq ⟨rfl,rfl⟩]
  rw[e];exact ago
 Hr:=λq hq=>by
  have e:AK ct i k ta q i k=ta q:=by unfold AK;rw[aq ⟨rfl,rfl⟩]
  rw[e];exact h.Hr q hq
 yB:=λn q hq=>by
  have e:AK ct i k ta q i k=ta q:=by unfold AK;rw[aq ⟨rfl,rfl⟩]
  have e2:AK cn i k nm n i k=nm n:=by unfold AK;rw[aq ⟨rfl,rfl⟩]
  rw[e,e2];exact hn n q hq
 Mg:=λq p ps hq=>by
  have e:AK ct i k ta q i k=ta q:=by unfold AK;rw[aq ⟨rfl,rfl⟩]
  rw[e]
  rcases h.Mg q p ps hq with h1 | ⟨j,h1,h2,h3⟩
  ·exact .inl h1
  ·refine .inr ⟨j,h1,h2,cW ?_ h3⟩
   exact ago
 Nv:=λn hn'=>by
  have e:∀q,AK ct i k ta q i k=ta q:=λq=>by unfold AK;rw[aq ⟨rfl,rfl⟩]
  have e2:AK cn i k nm n i k=nm n:=by unfold AK;rw[aq ⟨rfl,rfl⟩]
  rw[e2]
  rcases h.Nv n hn' with h1 | ⟨q,h1,h2⟩
  ·exact .inl h1
  ·refine .inr ⟨q,h1,?_⟩
   rw[e];exact cW (hn n q h1) h2
theorem EH.other {a b:Nat} (h:EH N tl hd row cn ct a b)  (ho:i<a\/b<k):
  EH N tl hd row (AK cn i k nm) (AK ct i k ta) a b:=by
 have e1:∀n c d,a<=c->d<=b->AK cn i k nm n c d=cn n c d:=λn c d h1 h2=>by unfold AK;rw[au (by omega)]
 have e2:∀n c d,a<=c->d<=b->AK ct i k ta n c d=ct n c d:=λn c d h1 h2=>by unfold AK;rw[au (by omega)]
 have e3:∀p q j,a<=j->j<=b->D3 N row (AK cn i k nm) (AK ct i k ta) p q a j b=D3 N row cn ct p q a j b:=λp q j h1 h2=>by
  unfold D3;rw[e2 _ _ _ h1 (yF _)];cases p with
  |tok t=>rfl
  |yB n=>show GD (AK cn i k nm n a j) _=GD (cn n a j) _;rw[e1 _ _ _ (yF _) h2]
 refine⟨λq p ps j hq h1 h2=>?_,λq hq=>?_,λn q hq=>?_,λq p ps hq=>?_,λn hn=>?_⟩
 ·rw[e2 _ _ _ (yF _) (yF _),e3 _ _ _ h1 h2];exact h.cut q p ps j hq h1 h2
 ·rw[e2 _ _ _ (yF _) (yF _)];exact h.Hr q hq
 ·rw[e2 _ _ _ (yF _) (yF _),e1 _ _ _ (yF _) (yF _)];exact h.yB n q hq
 ·rw[e2 _ _ _ (yF _) (yF _)]
  rcases h.Mg q p ps hq with h1 | ⟨j,h1,h2,h3⟩
  ·exact .inl h1
  ·exact .inr ⟨j,h1,h2,by rw[e3 _ _ _ h1 h2];exact h3⟩
 ·rw[e1 _ _ _ (yF _) (yF _)]
  rcases h.Nv n hn with h1 | ⟨q,h1,h2⟩
  ·exact .inl h1
  ·exact .inr ⟨q,h1,by rw[e2 _ _ _ (yF _) (yF _)];exact h2⟩
end
end
def LX:Option Pt->Bool
 |none=>false
 |some p=>AQ p
def M2:Option Pt->Nat
 |none=>0
 |some p=>AP p
structure zu where
 T:zn
 wb:Nat
 row:List Nat
 rv:Value
 gd:Nat
 cd:Nat
 gt:Nat
 ct:Nat
 yQ:List (Option Pt)
 gh:Nat
 ch:Nat
 hds:List (List Nat)
 gp:Nat
structure zu.In (Q:zu) (w:World):Prop where
 tab:Q.T.In w
 bd:Q.T.Bd Q.gp
 blk:w.heap[Q.wb]?=some (.cells #[ac Q.T.tb,Q.rv,ae Q.gd (Q.row.length+1) Q.cd,ae Q.gt Q.yQ.length Q.ct,ae Q.gh Q.T.N.nN Q.ch,ae Q.gp (Q.row.length+1) (Q.row.length+1)] 306 (0,0))
 Xy:Cw w Q.gp Q.rv Q.row
 Sq:∀i,i<=Q.row.length->w.cell? (af Q.gd i)=some (ab (AU Q.T.N (Q.row.take i)))
 Qk:∀(q:Nat) (o:Option Pt),Q.yQ[q]?=some o->w.cell? (af Q.gt (q*3))=some (.bool o.isNone)/\w.cell? (af Q.gt (q*3+1))=some (.bool (LX o))/\w.cell? (af Q.gt (q*3+2))=some (ab (M2 o))
 hdc:∀(n:Nat) (l:List Nat),Q.hds[n]?=some l->∃v,w.cell? (af Q.gh n)=some v/\Cw w Q.gp v l
 Dd:Q.gp<w.heap.size
 Mp:Q.wb<Q.gp
 gdl:Q.gd<Q.gp
 Uo:Q.gt<Q.gp
 ghl:Q.gh<Q.gp
 hl:Q.hds.length=Q.T.N.nN
 Ql:Q.yQ.length<=1000
 Qm:Q.yQ.length<=Q.ct
 Jb:∀(n:Nat) (l:List Nat),Q.hds[n]?=some l->l.length<=60/\∀q∈l,q<Q.yQ.length
 rl:∀x∈Q.row,x<Q.T.N.nT
 Em:Q.row.length<=100
 cdl:Q.row.length+1<=Q.cd
 chl:Q.T.N.nN<=Q.ch
 Up:∀(q:Nat) (p:Pt),Q.yQ[q]?=some (some p)->J5 Q.T.N p
theorem zu.In.below {Q:zu} (h:Q.In w) (hb:Below Q.gp w w'):Q.In w' where
 tab:=h.tab.below h.bd hb
 bd:=h.bd
 blk:=(hb.block Q.wb h.Mp).trans h.blk
 Xy:=h.Xy.below hb
 Sq:=λi hi=>(hb.cell (by exact h.gdl)).trans (h.Sq i hi)
 Qk:=λq o ho=>⟨(hb.cell (by exact h.Uo)).trans (h.Qk q o ho).1,(hb.cell (by exact h.Uo)).trans (h.Qk q o ho).2.1,(hb.cell (by exact h.Uo)).trans (h.Qk q o ho).2.2⟩
 hdc:=λn l hl=>by
  obtain⟨v,h1,h2⟩:=h.hdc n l hl;exact⟨v,(hb.cell (by exact h.ghl)).trans h1,h2.below hb⟩
 Dd:=lL h.Dd hb.size
 Mp:=h.Mp
 gdl:=h.gdl
 Uo:=h.Uo
 ghl:=h.ghl
 hl:=h.hl
 Ql:=h.Ql
 Qm:=h.Qm
 Jb:=h.Jb
 rl:=h.rl
 Em:=h.Em
 cdl:=h.cdl
 chl:=h.chl
 Up:=h.Up
theorem zu.In.zG {Q:zu} (h:Q.In w):Q.wb<w.heap.size:=ak h.blk
def I3 (w:World) (g n:Nat) (f:Nat->Wt):Prop:=∀i,i<n->w.cell? (af g (i*2))=some (ab (f i).1)/\w.cell? (af g (i*2+1))=some (ab (f i).2)
theorem I3.below {g:Nat} (h:I3 w g n f) (hb:Below B w w') (hg:g<B):I3 w' g n f:=λi hi=>⟨(hb.cell Cx).trans (h i hi).1,(hb.cell Cx).trans (h i hi).2⟩
def Gv (Q:zu) (w:World) (B i k:Nat) (f:Nat->Wt):Prop:=∃gi gn,gi<B/\gn<B/\w.cell? (af Q.gp i)=some (ae gi (Q.row.length+1) (Q.row.length+1))/\w.cell? (af gi (k*2))=some (ae gn Q.T.N.nN Q.T.N.nN)/\I3 w gn Q.T.N.nN f
def Mq (Q:zu) (w:World) (B i k:Nat) (f:Nat->Wt):Prop:=∃gi gq,gi<B/\gq<B/\w.cell? (af Q.gp i)=some (ae gi (Q.row.length+1) (Q.row.length+1))/\w.cell? (af gi (k*2+1))=some (ae gq Q.yQ.length Q.yQ.length)/\I3 w gq Q.yQ.length f
theorem Gv.below {Q:zu} (h:Gv Q w B i k f) (hb:Below B w w') (hg:Q.gp<B):Gv Q w' B i k f:=by
 obtain⟨gi,gn,h1,h2,h3,h4,h5⟩:=h;exact⟨gi,gn,h1,h2,(hb.cell Cx).trans h3,(hb.cell (by exact h1)).trans h4,h5.below hb h2⟩
theorem Mq.below {Q:zu} (h:Mq Q w B i k f) (hb:Below B w w') (hg:Q.gp<B):Mq Q w' B i k f:=by
 obtain⟨gi,gn,h1,h2,h3,h4,h5⟩:=h;exact⟨gi,gn,h1,h2,(hb.cell Cx).trans h3,(hb.cell (by exact h1)).trans h4,h5.below hb h2⟩
def WOk (a:Wt):Prop:=a.1<=8388608/\a.2<=939524097
theorem NH {N:NG} (row:List Nat)  (h:i<=j):AU N (row.take i)<=AU N (row.take j)/\AU N (row.take j) - AU N (row.take i)=E2 N row i j:=by
 have e:row.take j=row.take i++(row.drop i).take (j - i):=by
  conv=>lhs;rw[show j=i+(j - i) by omega]
  rw[List.take_add]
 rw[e,OS];unfold E2;omega
theorem JO {N:NG} (hN:N.Ok) {row:List Nat} (hr:∀x∈row,x<N.nT) (h:row.length<=100) (i:Nat):AU N (row.take i)<=9900:=by
 have h1:=PY hN (row:=row.take i) (λx hx=>hr x (vh hx));have h2:(row.take i).length<=row.length:=List.length_take_le' ..;omega
theorem jV {Q:zu} (hQ:Q.In w)  (hn:n<Q.T.N.nN) (hi:i<=Q.row.length) (hk:k<=Q.row.length) (hp:Gv Q w B i k f) (hB:B<=w.heap.size):
  Calls Tryz.prog 192 #[ac Q.wb,.agg #[.bool true,ab n],ab i,ab k] w λe w'=>e=.returned (Bz (f n))/\Below w.heap.size w w':=by
 obtain⟨gi,gn,h1,h2,c1,c2,c3⟩:=hp;obtain⟨c3,c4⟩:=c3 n hn;have c0:w.cell? (af Q.wb 5)=some (ae Q.gp (Q.row.length+1) (Q.row.length+1)):=(A0 hQ.blk).trans rfl;have Au:=hQ.zG;have ai6:=hQ.Em;have zU:=hQ.tab.fc.gr.Bt;obtain⟨L,hL⟩:=qF (Q.row.length+1);replace hi:i<L:=by omega
 replace hk:k<L:=by omega
 replace ai6:L<=101:=by omega
 obtain⟨nN,hN⟩:=qF (Q.T.N.nN);obtain⟨f1,hf1⟩:=qE ((f n).1);obtain⟨f2,hf2⟩:=qE ((f n).2);have Ob:Q.gp<w.heap.size:=by have:=bq _ _ c1;exact this
 rw[<-hL]at c0 c1;rw[<-hN]at hn c2 zU;rw[hf1]at c3;rw[hf2]at c4;have HF:Hid (Bz (f n)=.agg #[ab f1,ab f2]):=hid (by unfold Bz;rw[hf1,hf2]);clear hQ hL hN hf1 hf2;have hb1:Below w.heap.size w ((w.alloc (.cells #[.bool true,ab n] 235)).alloc (.cells #[ab 0,ab 0] 313)):=((ah _ w).alloc (yF _) _).alloc (by simp) _;have z0:((w.alloc (.cells #[.bool true,ab n] 235)).alloc (.cells #[ab 0,ab 0] 313)).heap[w.heap.size]?=some (.cells #[.bool true,ab n] 235 (0,0)):=(dm _ _ _ (by simp)).trans (ay w _);have z1:=P3 w (.cells #[.bool true,ab n] 235) #[ab 0,ab 0] 313 (0,0)
 go_enter Tryz.func192,Tryz.ntmps192
 go_upto_region 1 with fail
 obtain⟨W,hW⟩:=qE ((w.alloc (.cells #[.bool true,ab n] 235)).alloc (.cells #[ab 0,ab 0] 313));rw[hW]at hb1 z0 z1 ⊢;clear hW;have b0:W.cell? (af w.heap.size 0)=some (.bool true):=(A0 z0).trans rfl;have b1:W.cell? (af w.heap.size 1)=some (ab n):=(A0 z0).trans rfl;have r0:W.cell? (af (w.heap.size+1) 0)=some (ab 0):=(A0 z1).trans rfl;have r1:W.cell? (af (w.heap.size+1) 1)=some (ab 0):=(A0 z1).trans rfl;have s0:W.frozen? (af (w.heap.size+1) 0)=false:=A3 z1;have s1:W.frozen? (af (w.heap.size+1) 1)=false:=A3 z1;replace c0:=(hb1.cell (p:=(af Q.wb 5)) Gd).trans c0;replace c1:=(hb1.cell (p:=(af Q.gp i)) (by exact Ob)).trans c1;replace c2:=(hb1.cell (p:=(af gi (k*2))) (by show gi<w.heap.size;omega)).trans c2;replace c3:=(hb1.cell (p:=(af gn (n*2))) (by show gn<w.heap.size;omega)).trans c3;replace c4:=(hb1.cell (p:=(af gn (n*2+1))) (by show gn<w.heap.size;omega)).trans c4;have yR:=hid hb1
 have Nz:=hid z1;clear z0 z1 hb1
 go_upto_region 2 with fail
 refine AE (λw'=>(w'.cell? (af Q.wb 5)=some (ae Q.gp L L)/\w'.cell? (af Q.gp i)=some (ae gi L L)/\w'.cell? (af gi (k*2))=some (ae gn nN nN))/\w'.cell? (af gn (n*2))=some (ab f1)/\w'.cell? (af gn (n*2+1))=some (ab f2)/\w'.cell? (af w.heap.size 1)=some (ab n)) hmx yg ⟨⟨c0,c1,c2⟩,c3,c4,b1⟩ (λhH=>?_);simp only[AB,BM,AO];refine tB 0 hH ?_;refine tB 1 hH ?_;refine tB 2 hH ?_;refine tB 3 hH ?_;refine tB 4 hH ?_;refine tB 5 hH ?_;refine tB 6 hH ?_;refine tB 7 hH ?_;refine tB 8 hH ?_;refine tB 9 hH ?_;refine tB 10 hH ?_;refine tB 11 hH ?_;refine tB 12 hH ?_;refine tB 13 hH ?_;refine tB 14 hH ?_;refine tB 15 hH ?_;refine tL ?_;refine bk yg ?_ _;clear hH;show wpList _ _ _ _ _ _;go_wp2;refine⟨rfl,_,FW (p:=8) (ty:=313) rfl _ _ (w.heap.size+1) _ _ _ _ rfl (A6 (j:=1) (A6 (j:=0) Nz.out _) _) Tryz.underlying313 rfl yg,?_⟩;rw[HF.out];exact⟨rfl,((yR.out.setCell Tf _).setCell Tf _).drew⟩
theorem jK {Q:zu} (hQ:Q.In w) {t:Nat} (ht:t<Q.T.N.nT):
  Calls Tryz.prog 192 #[ac Q.wb,.agg #[.bool false,ab t],ab i,ab i] w λe w'=>e=.returned (Bz (Q.T.N.put t,1))/\Below w.heap.size w w':=by
 have c0:w.cell? (af Q.wb 0)=some (ac Q.T.tb):=(A0 hQ.blk).trans rfl;have Au:=hQ.zG;have Bk:Q.T.tb<w.heap.size:=hQ.tab.bd.tb;have Cj:=hQ.tab.fc.gr.Aj;obtain⟨c1,_⟩:=hQ.tab.tv.Ar;obtain⟨gT,Gm,Bf,_,c2⟩:=hQ.tab.fc.gr.toks t ht;have Bf:gT<w.heap.size:=by have:=hQ.tab.bd.n0;omega
 rw[Gm]at c1;obtain⟨nT,hN⟩:=qF (Q.T.N.nT);obtain⟨pt,Ae⟩:=qE (Q.T.N.put t);rw[<-hN]at ht c1 Cj;rw[Ae]at c2 ⊢;clear hQ hN Ae Gm;have hb1:Below w.heap.size w ((w.alloc (.cells #[.bool false,ab t] 235)).alloc (.cells #[ab 0,ab 0] 313)):=((ah _ w).alloc (yF _) _).alloc (by simp) _;have z0:((w.alloc (.cells #[.bool false,ab t] 235)).alloc (.cells #[ab 0,ab 0] 313)).heap[w.heap.size]?=some (.cells #[.bool false,ab t] 235 (0,0)):=(dm _ _ _ (by simp)).trans (ay w _);have z1:=P3 w (.cells #[.bool false,ab t] 235) #[ab 0,ab 0] 313 (0,0)
 go_enter Tryz.func192,Tryz.ntmps192
 go_upto_region 1 with fail
 obtain⟨W,hW⟩:=qE ((w.alloc (.cells #[.bool false,ab t] 235)).alloc (.cells #[ab 0,ab 0] 313));rw[hW]at hb1 z0 z1 ⊢;clear hW;have b0:W.cell? (af w.heap.size 0)=some (.bool false):=(A0 z0).trans rfl;have b1:W.cell? (af w.heap.size 1)=some (ab t):=(A0 z0).trans rfl;have r0:W.cell? (af (w.heap.size+1) 0)=some (ab 0):=(A0 z1).trans rfl;have r1:W.cell? (af (w.heap.size+1) 1)=some (ab 0):=(A0 z1).trans rfl;have s0:W.frozen? (af (w.heap.size+1) 0)=false:=A3 z1;have s1:W.frozen? (af (w.heap.size+1) 1)=false:=A3 z1;replace c0:=(hb1.cell (p:=(af Q.wb 0)) Gd).trans c0;replace c1:=(hb1.cell (p:=(af Q.T.tb 0)) (by exact Bk)).trans c1;replace c2:=(hb1.cell (p:=(af gT (t*4+1))) (by exact Bf)).trans c2;have yR:=hid hb1;have Nz:=hid z1;clear z0 z1 hb1
 go_upto_region 4 with fail
 refine AE (λw'=>w'.cell? (af Q.wb 0)=some (ac Q.T.tb)/\w'.cell? (af Q.T.tb 0)=some (ae gT nT Q.T.yl)/\w'.cell? (af gT (t*4+1))=some (ab pt)/\w'.cell? (af w.heap.size 1)=some (ab t)) hmx yg ⟨c0,c1,c2,b1⟩ (λhH=>?_);simp only[AB,BM,AO];refine tB 0 hH ?_;refine tB 1 hH ?_;refine tB 2 hH ?_;refine tB 3 hH ?_;refine tB 4 hH ?_;refine tB 5 hH ?_;refine tB 6 hH ?_;refine tB 7 hH ?_;refine tB 8 hH ?_;refine tB 9 hH ?_;refine tB 10 hH ?_;refine tB 11 hH ?_;refine tB 12 hH ?_;refine tB 13 hH ?_;refine tB 14 hH ?_;refine tB 15 hH ?_;refine tL ?_;refine bk yg ?_ _;clear hH;show wpList _ _ _ _ _ _;go_wp2;refine⟨rfl,_,FW (p:=8) (ty:=313) rfl _ _ (w.heap.size+1) _ _ _ _ rfl (A6 (j:=1) (A6 (j:=0) Nz.out _) _) Tryz.underlying313 rfl yg,?_⟩;exact⟨rfl,((yR.out.setCell Tf _).setCell Tf _).drew⟩
theorem jD {Q:zu} (hQ:Q.In w) {t m:Nat} (ht:t<Q.T.N.nT) (hik:i<=m) (hk:m<Q.row.length):
  Calls Tryz.prog 192 #[ac Q.wb,.agg #[.bool false,ab t],ab i,ab (m+1:Nat)] w λe w'=>e=.returned (Bz (FR Q.T.N Q.row t i (m+1)))/\Below w.heap.size w w':=by
 have c1:w.cell? (af Q.wb 1)=some Q.rv:=(A0 hQ.blk).trans rfl;have Au:=hQ.zG;obtain⟨x,hx,hx'⟩:=PN (row:=Q.row) (i:=m) (k:=m+1) (by omega) (by omega);rw[show m+1 - 1=m by omega]at hx hx';obtain⟨ad,cap,Ai,hcap,hrc⟩:=hQ.Xy;obtain⟨gr,off,rfl,hgr,hrc⟩:=hrc (by omega);have c3:=hrc m x hx;rw[Ai]at c1;have Sr:=hQ.Dd;have Hu:=hQ.Em;have Jm:x<Q.T.N.nT:=hQ.rl x (mG hx);obtain⟨kc,hkc⟩:=qE (FH Q.T.N x t);have alo:kc<=1048576:=by
  rw[<-hkc];unfold FH JS
  by_cases h1:x=t
  ·rw[aq h1];simp
  ·rw[au h1]
   by_cases h2:Q.T.N.swp x t=0
   ·rw[aq h2];exact yF _
   ·rw[au h2]
    have:=hQ.tab.fc.gr.ok.abZ x t;simp only[jm];omega
 obtain⟨hab,hdc⟩:=NH (N:=Q.T.N) Q.row hik;have hds:=JO hQ.tab.fc.gr.ok hQ.rl hQ.Em m;obtain⟨dc,Xz⟩:=qE (E2 Q.T.N Q.row i m);have ai7:dc<=9900:=by omega
 rw[Xz]at hdc;have Ss:Hid (∀V,Below w.heap.size w V->Q.In V):=hid λV hb=>hQ.below (hb.mono (by omega))
 have HD:Hid (∀V,Below w.heap.size w V->Calls Tryz.prog 194 #[ac Q.wb,ab i,ab m] V λe w'=>e=.returned (ab dc)/\Below V.heap.size V w'):=hid λV hb=>by
  have hV:=Ss.out V hb;have h:=N4 V Q.wb Q.gd (Q.row.length+1) Q.cd i m _ _ ((A0 hV.blk).trans rfl) (by omega) (by omega) (by omega) (hV.Sq i (by omega)) (hV.Sq m (by omega)) hab (by omega);rw[hdc]at h;exact h
 have HK:Hid (∀V,Below w.heap.size w V->Calls Tryz.prog 219 #[ac Q.wb,ab x,ab t] V λe w'=>e=.returned (ab kc)/\Below V.heap.size V w'):=hid λV hb=>by
  have hV:=Ss.out V hb;have h:=QH hV.tab.fc.gr hV.tab.fc.ln hV.tab.tv ((A0 hV.blk).trans rfl) x t Jm ht;rw[hkc]at h;exact h
 have HR:Hid (Bz (FR Q.T.N Q.row t i (m+1))=.agg #[ab (dc+kc:Nat),ab 1]):=hid (by
  unfold FR Bz;rw[au (by omega),show m+1 - 1=m by omega,hx',hkc,Xz];rfl)
 have hgr:gr<w.heap.size:=by omega
 obtain⟨L,hL⟩:=qF (Q.row.length);rw[<-hL]at hk hcap c1 Hu;have hne:((i:Int)==(m:Int)+1)=false:=by rw[jz];omega
 have hml:((m:Int)< (L:Int)):=by omega
 have hmw:IntKind.i64.wrap (m:Int)=(m:Int):=by rw[Cy];omega
 have hm0:(0:Int)<=(m:Int):=by omega
 clear hQ hL hrc hx hx' hkc hdc Xz hab Ai;have hb1:Below w.heap.size w ((w.alloc (.cells #[.bool false,ab t] 235)).alloc (.cells #[ab 0,ab 0] 313)):=((ah _ w).alloc (yF _) _).alloc (by simp) _;have z0:((w.alloc (.cells #[.bool false,ab t] 235)).alloc (.cells #[ab 0,ab 0] 313)).heap[w.heap.size]?=some (.cells #[.bool false,ab t] 235 (0,0)):=(dm _ _ _ (by simp)).trans (ay w _);have z1:=P3 w (.cells #[.bool false,ab t] 235) #[ab 0,ab 0] 313 (0,0)
 go_enter Tryz.func192,Tryz.ntmps192
 go_upto_region 1 with fail
 obtain⟨W,hW⟩:=qE ((w.alloc (.cells #[.bool false,ab t] 235)).alloc (.cells #[ab 0,ab 0] 313));rw[hW]at hb1 z0 z1 ⊢;clear hW;have b0:W.cell? (af w.heap.size 0)=some (.bool false):=(A0 z0).trans rfl;have b1:W.cell? (af w.heap.size 1)=some (ab t):=(A0 z0).trans rfl;have r0:W.cell? (af (w.heap.size+1) 0)=some (ab 0):=(A0 z1).trans rfl;have r1:W.cell? (af (w.heap.size+1) 1)=some (ab 0):=(A0 z1).trans rfl;have s0:W.frozen? (af (w.heap.size+1) 0)=false:=A3 z1;have s1:W.frozen? (af (w.heap.size+1) 1)=false:=A3 z1;replace c1:=(hb1.cell (p:=(af Q.wb 1)) Gd).trans c1;replace c3:=(hb1.cell (p:=(af gr (off+m))) (by exact hgr)).trans c3;have yR:=hid hb1;have Nz:=hid z1;have hs1:w.heap.size+1<W.heap.size:=ak z1;clear z0 z1 hb1
 go_upto_region 5 with fail
 refine AE (λw'=>w'.cell? (af Q.wb 1)=some (.slice (some (af gr off)) L cap)/\w'.cell? (af gr (off+m))=some (ab x)/\w'.cell? (af w.heap.size 1)=some (ab t)) hmx yg ⟨c1,c3,b1⟩ (λhH=>?_);simp only[AB,BM,AO];refine tB 0 hH ?_;refine tB 1 hH ?_;refine tB 2 hH ?_;refine tB 3 hH ?_;refine tB 5 hH ?_;refine tB 6 hH ?_;refine tB 7 hH ?_;refine tB 8 hH ?_;refine tB 9 hH ?_;refine tB 10 hH ?_;refine tB 11 hH ?_;refine tB 12 hH ?_;refine tB 13 hH ?_;refine tB 14 hH ?_;refine tB 15 hH ?_;refine tL ?_;refine tS 4 λK hK=>?_
 refine tM ?_
 go_simp;refine(HD.out _ (yR.out.drew)).mono ?_;rintro e w4 ⟨rfl,hb4⟩;try dsimp only
 refine hK.out _ _ ?_ λhH=>?_
 ·exact⟨(hb4.cell Zr).trans hH.1,(hb4.cell (by show gr<W.heap.size;omega)).trans hH.2.1,(hb4.cell acV).trans hH.2.2⟩
 clear hK K;refine tL ?_;have Ea:W.heap.size<=w4.heap.size:=hb4.size;have zV:Hid (Below w.heap.size w w4):=hid (yR.out.drew.trans (hb4.mono abJ));have HW4:Hid (Below W.heap.size W w4):=hid ((ah _ W).drew.trans hb4);refine tS 16 λK hK=>?_
 refine tM ?_
 go_simp;refine(HK.out _ zV.out).mono ?_;rintro e w5 ⟨rfl,yT⟩;try dsimp only
 refine hK.out _ _ ?_ λhH=>?_
 ·exact⟨(yT.cell Zq).trans hH.1,(yT.cell (by show gr<w4.heap.size;omega)).trans hH.2.1,(yT.cell (by show w.heap.size<w4.heap.size;omega)).trans hH.2.2⟩
 clear hK K;refine tB 17 hH ?_;refine tB 18 hH ?_;refine tB 19 hH ?_;refine tL ?_;refine bk yg ?_ _;have Gw:Hid (Below W.heap.size W w5):=hid (HW4.out.trans (yT.mono Ea));replace r0:=(Gw.out.cell (p:=(af (w.heap.size+1) 0)) Rc).trans r0;replace r1:=(Gw.out.cell (p:=(af (w.heap.size+1) 1)) Rc).trans r1;replace s0:=(Gw.out.frozen (p:=(af (w.heap.size+1) 0)) Rc).trans s0;replace s1:=(Gw.out.frozen (p:=(af (w.heap.size+1) 1)) Rc).trans s1;have HZ9:=hid ((Gw.out.block _ hs1).trans Nz.out);have zI:Hid (Below w.heap.size w w5):=hid (zV.out.trans (yT.mono (by omega)));clear hH hb4 yT;show wpList _ _ _ _ _ _;go_wp2;refine⟨rfl,_,FW (p:=8) (ty:=313) rfl _ _ (w.heap.size+1) _ _ _ _ rfl (A6 (j:=1) (A6 (j:=0) HZ9.out _) _) Tryz.underlying313 rfl yg,?_⟩;rw[HR.out];exact⟨rfl,((zI.out.setCell Tf _).setCell Tf _)⟩
theorem U4 {Q:zu} (hQ:Q.In w) {cn:Nat->Nat->Nat->Wt} (hp:J5 Q.T.N p) (hik:i<=k) (hk:k<=Q.row.length) (Lj:∀n,p=.yB n->Gv Q w B i k (λn=>cn n i k)) (hB:B<=w.heap.size):
  Calls Tryz.prog 192 #[ac Q.wb,.agg #[.bool (AQ p),ab (AP p)],ab i,ab k] w λe w'=>e=.returned (Bz (CZ Q.T.N Q.row cn p i k))/\Below w.heap.size w w':=by
 cases p with
 |yB n=>
  have h:=jV hQ (n:=n) (i:=i) (k:=k) (f:=λn=>cn n i k) hp (by omega) hk (Lj n rfl) hB;rw[show AQ (Pt.yB n)=true from rfl,show AP (Pt.yB n)=n from rfl,show CZ Q.T.N Q.row cn (.yB n) i k=cn n i k from rfl];exact h
 |tok t=>
  by_cases e:i=k
  ·subst e
   have h:=jK hQ (t:=t) (i:=i) hp;have e2:CZ Q.T.N Q.row cn (.tok t) i i=(Q.T.N.put t,1):=by show FR Q.T.N Q.row t i i=_;unfold FR;rw[aq rfl]
   rw[e2,show AQ (Pt.tok t)=false from rfl,show AP (Pt.tok t)=t from rfl];exact h
  ·obtain⟨m,rfl⟩:∃m,k=m+1:=⟨k - 1,by omega⟩
   have h:=jD hQ (t:=t) (i:=i) (m:=m) hp (by omega) (by omega);rw[show AQ (Pt.tok t)=false from rfl,show AP (Pt.tok t)=t from rfl,show CZ Q.T.N Q.row cn (.tok t) i (m+1)=FR Q.T.N Q.row t i (m+1) from rfl];exact h
theorem RH {Q:zu} (hQ:Q.In w) {cn ct:Nat->Nat->Nat->Wt} (hq:Q.yQ[q]?=some (some p)) (Ev:q+1<Q.yQ.length) (hij:i<=j) (hjk:j<=k) (hk:k<=Q.row.length)
  (Lj:∀n,p=.yB n->Gv Q w B i j (λn=>cn n i j)) (htv:Mq Q w B j k (λq=>ct q j k)) (hB:B<=w.heap.size) (hw1:WOk (CZ Q.T.N Q.row cn p i j)) (hw2:WOk (ct (q+1) j k)):
  Calls Tryz.prog 234 #[ac Q.wb,ab q,ab i,ab j,ab k] w λe w'=>e=.returned (Bz (D3 Q.T.N Q.row cn ct p q i j k))/\Below w.heap.size w w':=by
 have c3:w.cell? (af Q.wb 3)=some (ae Q.gt Q.yQ.length Q.ct):=(A0 hQ.blk).trans rfl;have c5:w.cell? (af Q.wb 5)=some (ae Q.gp (Q.row.length+1) (Q.row.length+1)):=(A0 hQ.blk).trans rfl;obtain⟨_,t1,t2⟩:=hQ.Qk q _ hq;obtain⟨gi,gq,h1,h2,c6,c7,c8⟩:=htv;obtain⟨c8,c9⟩:=c8 (q+1) Ev;simp only at c8 c9;have Au:=hQ.zG;have Sr:=hQ.Dd;have abj:Q.gt<w.heap.size:=by have:=hQ.Uo;omega
 have Hu:=hQ.Em;have Bk:=hQ.Ql;have Oc:=hQ.Qm;have Ci:=hQ.Up q p hq;have HO:Hid (∀V,Below w.heap.size w V->Calls Tryz.prog 192 #[ac Q.wb,.agg #[.bool (LX (some p)),ab (M2 (some p))],ab i,ab j] V λe w'=>e=.returned (Bz (CZ Q.T.N Q.row cn p i j))/\Below V.heap.size V w'):=hid λV hb=>
  U4 (hQ.below (hb.mono (by omega))) (B:=w.heap.size) Ci hij (by omega) (λn e=>by
   obtain⟨Qn,Ya,z1,z2,z3,z4,z5⟩:=Lj n e;exact Gv.below ⟨Qn,Ya,by omega,by omega,z3,z4,z5⟩ hb Sr) hb.size
 obtain⟨pw,hpw⟩:=qE (CZ Q.T.N Q.row cn p i j);obtain⟨tw,Nh⟩:=qE (ct (q+1) j k);have HR:Hid (D3 Q.T.N Q.row cn ct p q i j k=GD pw tw):=hid (by unfold D3;rw[hpw,Nh]);rw[hpw]at HO hw1;rw[Nh]at hw2 c8 c9;obtain⟨p1,p2⟩:=pw;obtain⟨t1',t2'⟩:=tw;simp only at c8 c9;have HP:Hid (∀V,Calls Tryz.prog 193 #[.agg #[ab p1,ab p2],.agg #[ab t1',ab t2']] V λe w'=>e=.returned (Bz (GD (p1,p2) (t1',t2')))/\Below V.heap.size V w'):=hid λV=>RB p1 p2 t1' t2' (by have:=hw1.1;have:=hw2.1;simp only at*;omega) hw1.2 hw2.2 V
 obtain⟨bn,zY⟩:=qE (LX (some p));obtain⟨np,hnp⟩:=qE (M2 (some p));rw[zY]at t1 HO;rw[hnp]at t2 HO;obtain⟨L,hL⟩:=qF (Q.row.length+1);obtain⟨nQ,Dw⟩:=qF (Q.yQ.length);have hjL:j<L:=by omega
 have hkL:k<L:=by omega
 have Cb:L<=101:=by omega
 rw[<-hL]at c5 c6;rw[<-Dw]at c3 c7 Ev Bk Oc;have hqQ:q<nQ:=by omega
 have Kz:gi<w.heap.size:=by omega
 have Su:gq<w.heap.size:=by omega
 have hqw:IntKind.i64.wrap ((q:Int)+1)=(q:Int)+1:=by rw[Cy];omega
 have Ro:(0:Int)<=(q:Int)+1:=by omega
 have hqi:((q:Int)+1< (nQ:Int)):=by omega
 have hqt:((q:Int)+1).toNat=q+1:=by omega
 have zv:Hid (Below w.heap.size w (w.alloc (.cells #[ab 0,ab 0] 313))):=hid ((ah _ w).alloc (yF _) _);have Yb:Hid ((w.alloc (.cells #[ab 0,ab 0] 313)).heap[w.heap.size]?=some (.cells #[ab 0,ab 0] 313 (0,0))):=hid (ay w _);clear hQ hq Lj hw1 hw2 zY hnp hL Dw hpw Nh Ci hij hjk hk h1 h2 hB
 go_enter Tryz.func234,Tryz.ntmps234
 go_upto_region 1 with fail
 obtain⟨W,hW⟩:=qE (w.alloc (.cells #[ab 0,ab 0] 313));rw[hW]at zv Yb ⊢;clear hW;have hs1:w.heap.size<W.heap.size:=ak Yb.out;replace c3:=(zv.out.cell (p:=(af Q.wb 3)) Gd).trans c3;replace c5:=(zv.out.cell (p:=(af Q.wb 5)) Gd).trans c5;replace t1:=(zv.out.cell (p:=(af Q.gt (q*3+1))) (by exact abj)).trans t1;replace t2:=(zv.out.cell (p:=(af Q.gt (q*3+2))) (by exact abj)).trans t2;replace c6:=(zv.out.cell (p:=(af Q.gp j)) (by exact Sr)).trans c6;replace c7:=(zv.out.cell (p:=(af gi (k*2+1))) (by exact Kz)).trans c7;replace c8:=(zv.out.cell (p:=(af gq ((q+1)*2))) (by exact Su)).trans c8;replace c9:=(zv.out.cell (p:=(af gq ((q+1)*2+1))) (by exact Su)).trans c9;refine AE (λw'=>(w'.cell? (af Q.wb 3)=some (ae Q.gt nQ Q.ct)/\w'.cell? (af Q.wb 5)=some (ae Q.gp L L)/\w'.cell? (af Q.gt (q*3+1))=some (.bool bn)/\w'.cell? (af Q.gt (q*3+2))=some (ab np))/\w'.cell? (af Q.gp j)=some (ae gi L L)/\w'.cell? (af gi (k*2+1))=some (ae gq nQ nQ)/\w'.cell? (af gq ((q+1)*2))=some (ab t1')/\w'.cell? (af gq ((q+1)*2+1))=some (ab t2')) hmx yg ⟨⟨c3,c5,t1,t2⟩,c6,c7,c8,c9⟩ (λhH=>?_)
 simp only[AB,BM,AO];refine tB 0 hH ?_;refine tB 1 hH ?_;refine tB 2 hH ?_;refine tB 3 hH ?_;refine tB 4 hH ?_;refine tB 5 hH ?_;refine tB 6 hH ?_;refine tB 7 hH ?_;refine tB 8 hH ?_;refine tB 9 hH ?_;refine tB 10 hH ?_;refine tB 12 hH ?_;refine tB 13 hH ?_;refine tB 14 hH ?_;refine tB 15 hH ?_;refine tB 16 hH ?_;refine tB 17 hH ?_;refine tB 18 hH ?_;refine tB 19 hH ?_;refine tB 20 hH ?_;refine tB 21 hH ?_;refine tB 22 hH ?_;refine tB 23 hH ?_;refine tB 24 hH ?_;refine tB 25 hH ?_;refine tB 26 hH ?_;refine tL ?_;refine tS 11 λK hK=>?_
 refine tM ?_
 go_simp;refine(HO.out _ (zv.out.drew)).mono ?_;rintro e w4 ⟨rfl,hb4⟩;unfold Bz;try dsimp only
 refine hK.out _ _ ?_ λhH=>?_
 ·exact⟨⟨(hb4.cell Zr).trans hH.1.1,(hb4.cell Zr).trans hH.1.2.1,(hb4.cell (by show Q.gt<W.heap.size;omega)).trans hH.1.2.2.1,(hb4.cell (by show Q.gt<W.heap.size;omega)).trans hH.1.2.2.2⟩,(hb4.cell (by show Q.gp<W.heap.size;omega)).trans hH.2.1,(hb4.cell (by show gi<W.heap.size;omega)).trans hH.2.2.1,(hb4.cell abO).trans hH.2.2.2.1,(hb4.cell abO).trans hH.2.2.2.2⟩
 clear hK K;refine tL ?_;have Ea:W.heap.size<=w4.heap.size:=hb4.size;have zV:Hid (Below w.heap.size w w4):=hid (zv.out.drew.trans (hb4.mono abJ));have HW4:Hid (Below W.heap.size W w4):=hid ((ah _ W).drew.trans hb4);refine tS 27 λK hK=>?_
 refine tM ?_
 go_simp;refine(HP.out _).mono ?_;rintro e w5 ⟨rfl,yT⟩;unfold Bz;try dsimp only
 refine hK.out _ _ ?_ λhH=>?_
 ·exact⟨⟨(yT.cell Zq).trans hH.1.1,(yT.cell Zq).trans hH.1.2.1,(yT.cell (by show Q.gt<w4.heap.size;omega)).trans hH.1.2.2.1,(yT.cell (by show Q.gt<w4.heap.size;omega)).trans hH.1.2.2.2⟩,(yT.cell (by show Q.gp<w4.heap.size;omega)).trans hH.2.1,(yT.cell (by show gi<w4.heap.size;omega)).trans hH.2.2.1,(yT.cell (by show gq<w4.heap.size;omega)).trans hH.2.2.2.1,(yT.cell (by show gq<w4.heap.size;omega)).trans hH.2.2.2.2⟩
 clear hK K;refine tB 28 hH ?_;refine tL ?_;refine bk yg ?_ _;have Gw:Hid (Below W.heap.size W w5):=hid (HW4.out.trans (yT.mono Ea));have r0:=(Gw.out.cell (p:=(af w.heap.size 0)) Rc).trans ((A0 (j:=0) Yb.out).trans rfl);have r1:=(Gw.out.cell (p:=(af w.heap.size 1)) Rc).trans ((A0 (j:=1) Yb.out).trans rfl);have s0:=(Gw.out.frozen (p:=(af w.heap.size 0)) Rc).trans (A3 (j:=0) Yb.out);have s1:=(Gw.out.frozen (p:=(af w.heap.size 1)) Rc).trans (A3 (j:=1) Yb.out);have HZ9:=hid ((Gw.out.block _ hs1).trans Yb.out);have zI:Hid (Below w.heap.size w w5):=hid (zV.out.trans (yT.mono (by omega)));clear hH hb4 yT;show wpList _ _ _ _ _ _;go_wp2;refine⟨rfl,_,FW (p:=10) (ty:=313) rfl _ _ w.heap.size _ _ _ _ rfl (A6 (j:=1) (A6 (j:=0) HZ9.out _) _) Tryz.underlying313 rfl yg,?_⟩;rw[HR.out];exact⟨rfl,(zI.out.setCell Lc _).setCell Lc _⟩
end Go.Proofs.YtjjggdcnpndgjaaGreatDoor
