import Derived.Test.YtjjggdcnpndgjaaGreatDoorCJ26
set_option linter.unusedSimpArgs false
set_option maxHeartbeats 4000000
set_option maxRecDepth 100000
namespace Go.Proofs.YtjjggdcnpndgjaaGreatDoor
open Go.RowKit Go.Shelf
variable {B i j k n q:Nat}{f nm ta zZ:Nat->Wt}{p:Pt}{w w':World}
section
def WJ (a b:Wt):Bool:=decide (a.1<b.1)||(decide (a.1=b.1)&&decide (a.2<b.2))
def BS (a b:Wt):Wt:=if WJ b a then b else a
theorem YK {a b:Wt}:WJ a b=true↔¬Ao b a:=by
 unfold WJ Ao;simp only[oq,gz,ir];omega
theorem RF (a b:Wt):Ao (BS a b) a:=by
 unfold BS;split
 ·rename_i h
  have:=YK.1 h;unfold Ao at*;omega
 ·exact FV a
theorem bT (a b:Wt):Ao (BS a b) b:=by
 unfold BS;split
 ·exact FV b
 ·rename_i h
  have:¬¬Ao a b:=λh2=>h (YK.2 h2)
  exact Classical.not_not.1 this
theorem SM (a b:Wt):BS a b=a\/BS a b=b:=by
 unfold BS;split <;> simp
def AP (f:Nat->Nat->Nat->Wt) (i k:Nat) (g:Nat->Wt):Nat->Nat->Nat->Wt:=λn a b=>if a=i/\b=k then g n else f n a b
def BA (g:Nat->Wt) (n:Nat) (v:Wt):Nat->Wt:=λm=>if m=n then v else g m
theorem iB {g:Nat->Wt}{v:Wt} (h:Ao v (g n)) (m:Nat):Ao (BA g n v m) (g m):=by
 unfold BA;split
 ·rename_i e;rw[e];exact h
 ·exact FV _
theorem gQ {f:Nat->Nat->Nat->Wt}{g g':Nat->Wt} (h:∀m,Ao (g' m) (g m)) (n a b:Nat):Ao (AP f i k g' n a b) (AP f i k g n a b):=by
 unfold AP;split
 ·exact h n
 ·exact FV _
section
variable (N:NG) (tl:Nat->Option (List Pt)) (hd:Nat->Nat->Prop) (row:List Nat) (cn ct:Nat->Nat->Nat->Wt) (i k:Nat)
def F3 (nm ta:Nat->Wt) (p:Pt) (q j:Nat):Wt:=DE N row (AP cn i k nm) (AP ct i k ta) p q i j k
structure Io (nm ta:Nat->Wt):Prop where
 Jz:∀q,tl q=some []->ta q=if i=k then(0,0)else(AJ,0)
 cut:∀q p ps j,tl q=some (p::ps)->i<j->j<k->Ao (ta q) (F3 N row cn ct i k nm ta p q j)
 Ny:∀q p ps,tl q=some (p::ps)->ta q=(AJ,0)\/∃j,i<=j/\j<=k/\Ao (F3 N row cn ct i k nm ta p q j) (ta q)
 Py:∀n,n<N.nN->nm n=(AJ,0)\/∃q,hd n q/\Ao (named (ta q)) (nm n)
variable {N tl hd row cn ct i k}
theorem lG {f g:Nat->Nat->Nat->Wt} (h:∀n a b,Ao (f n a b) (g n a b)) (p:Pt) (a b:Nat):Ao (D9 N row f p a b) (D9 N row g p a b):=by
 cases p with
 |tok t=>exact FV _
 |zi n=>exact h n a b
theorem Y6 {nm':Nat->Wt} (h:∀n,Ao (nm' n) (nm n)) (h':∀n,Ao (zZ n) (ta n)) (p:Pt) (q j:Nat):Ao (F3 N row cn ct i k nm' zZ p q j) (F3 N row cn ct i k nm ta p q j):=
 YB (lG (gQ h) p i j) (gQ h' (q+1) j k)
theorem UP {nm':Nat->Wt} (h1:i<j) (h2:j<k):F3 N row cn ct i k nm' zZ p q j=F3 N row cn ct i k nm ta p q j:=by
 unfold F3 DE;have e1:D9 N row (AP cn i k nm') p i j=D9 N row (AP cn i k nm) p i j:=by
  cases p with
  |tok t=>rfl
  |zi n=>show AP cn i k nm' n i j=AP cn i k nm n i j;unfold AP;rw[aq (by omega),aq (by omega)]
 have e2:AP ct i k zZ (q+1) j k=AP ct i k ta (q+1) j k:=by unfold AP;rw[aq (by omega),aq (by omega)]
 rw[e1,e2]
theorem Io.tail  (h:Io N tl hd row cn ct i k nm ta) {ps:List Pt} (hq:tl q=some (p::ps))  (hj:i<=j) (hj':j<=k):
  Io N tl hd row cn ct i k nm (BA ta q (BS (ta q) (F3 N row cn ct i k nm ta p q j))):=by
 have hle:∀m,Ao (BA ta q (BS (ta q) (F3 N row cn ct i k nm ta p q j)) m) (ta m):=iB (RF _ _);have hm:∀p' q' j',Ao (F3 N row cn ct i k nm (BA ta q (BS (ta q) (F3 N row cn ct i k nm ta p q j))) p' q' j') (F3 N row cn ct i k nm ta p' q' j'):=λp' q' j'=>Y6 (λ_=>FV _) hle p' q' j'
 refine⟨λq' Dg=>?_,λq' p' ps' j' Dg h1 h2=>?_,λq' p' ps' Dg=>?_,λn hn=>?_⟩
 ·have:q'≠q:=λe=>by rw[e,hq]at Dg;cases Dg
  unfold BA;rw[aq this];exact h.Jz q' Dg
 ·rw[UP (nm':=nm) (zZ:=BA ta q _) (nm:=nm) (ta:=ta) h1 h2]
  exact GU (hle q') (h.cut q' p' ps' j' Dg h1 h2)
 ·by_cases e:q'=q
  ·subst e
   rw[hq]at Dg;injection Dg with Dg
   injection Dg with e1 e2
   subst e1;have es:BA ta q' (BS (ta q') (F3 N row cn ct i k nm ta p q' j)) q'=BS (ta q') (F3 N row cn ct i k nm ta p q' j):=by unfold BA;rw[ay rfl]
   rcases SM (ta q') (F3 N row cn ct i k nm ta p q' j)with e3 |e3
   ·rcases h.Ny q' p ps hq with h1 | ⟨j',h1,h2,h3⟩
    ·exact .inl (by rw[es,e3];exact h1)
    ·exact .inr ⟨j',h1,h2,by rw[es,e3];rw[e3]at hm;exact GU (hm p q' j') h3⟩
   ·refine .inr ⟨j,hj,hj',?_⟩
    rw[es];exact GU (hm p q' j) (by rw[e3];exact FV _)
  ·have es:BA ta q (BS (ta q) (F3 N row cn ct i k nm ta p q j)) q'=ta q':=by unfold BA;rw[aq e]
   rcases h.Ny q' p' ps' Dg with h1 | ⟨j',h1,h2,h3⟩
   ·exact .inl (by rw[es];exact h1)
   ·exact .inr ⟨j',h1,h2,by rw[es];exact GU (hm p' q' j') h3⟩
 ·rcases h.Py n hn with h1 | ⟨q',h1,h2⟩
  ·exact .inl h1
  ·exact .inr ⟨q',h1,GU (YB (hle q') (FV _)) h2⟩
theorem Io.name  (h:Io N tl hd row cn ct i k nm ta)  (hq:hd n q):
  Io N tl hd row cn ct i k (BA nm n (BS (nm n) (named (ta q)))) ta:=by
 have hle:∀m,Ao (BA nm n (BS (nm n) (named (ta q))) m) (nm m):=iB (RF _ _);have hm:∀p' q' j',Ao (F3 N row cn ct i k (BA nm n (BS (nm n) (named (ta q)))) ta p' q' j') (F3 N row cn ct i k nm ta p' q' j'):=λp' q' j'=>Y6 hle (λ_=>FV _) p' q' j'
 refine⟨h.Jz,λq' p' ps' j' Dg h1 h2=>?_,λq' p' ps' Dg=>?_,λm hm'=>?_⟩
 ·rw[UP (nm':=BA nm n _) (zZ:=ta) (nm:=nm) (ta:=ta) h1 h2]
  exact h.cut q' p' ps' j' Dg h1 h2
 ·rcases h.Ny q' p' ps' Dg with h1 | ⟨j',h1,h2,h3⟩
  ·exact .inl h1
  ·exact .inr ⟨j',h1,h2,GU (hm p' q' j') h3⟩
 ·by_cases e:m=n
  ·subst e
   have es:BA nm m (BS (nm m) (named (ta q))) m=BS (nm m) (named (ta q)):=by unfold BA;rw[ay rfl]
   rw[es]
   rcases SM (nm m) (named (ta q))with e3 |e3
   ·rw[e3];exact h.Py m hm'
   ·rw[e3];exact .inr ⟨q,hq,FV _⟩
  ·have es:BA nm n (BS (nm n) (named (ta q))) m=nm m:=by unfold BA;rw[aq e]
   rw[es];exact h.Py m hm'
def IG (N:NG) (tl:Nat->Option (List Pt)) (row:List Nat) (cn ct:Nat->Nat->Nat->Wt) (i k:Nat) (nm ta:Nat->Wt) (q0:Nat):Prop:=
 ∀q p ps,q0<=q->tl q=some (p::ps)->Ao (ta q) (F3 N row cn ct i k nm ta p q i)/\Ao (ta q) (F3 N row cn ct i k nm ta p q k)
theorem MD  (h:zZ (q+1)=ta (q+1)):F3 N row cn ct i k nm zZ p q j=F3 N row cn ct i k nm ta p q j:=by
 unfold F3 DE;have:AP ct i k zZ (q+1) j k=AP ct i k ta (q+1) j k:=by unfold AP;rw[h]
 rw[this]
theorem IG.step {ps:List Pt} (h:IG N tl row cn ct i k nm ta (q+1)) (hq:tl q=some (p::ps)) (ho:∀m,m≠q->zZ m=ta m)
  (he:zZ q=BS (BS (ta q) (F3 N row cn ct i k nm ta p q i)) (F3 N row cn ct i k nm ta p q k)):IG N tl row cn ct i k nm zZ q:=by
 intro q' p' ps' hle Dg
 by_cases e:q'=q
 ·subst e
  rw[hq]at Dg;injection Dg with Dg
  injection Dg with e1 _
  subst e1;rw[MD (ta:=ta) (ho _ (by omega)),MD (ta:=ta) (ho _ (by omega)),he];exact⟨GU (RF _ _) (bT _ _),bT _ _⟩
 ·have h1:=h q' p' ps' (by omega) Dg
  rw[MD (ta:=ta) (ho _ (by omega)),MD (ta:=ta) (ho _ (by omega)),ho _ e];exact h1
theorem IG.skip  (h:IG N tl row cn ct i k nm ta (q+1)) (hq:∀p ps,tl q≠some (p::ps)):IG N tl row cn ct i k nm ta q:=by
 intro q' p' ps' hle Dg;have:q'≠q:=λe=>hq p' ps' (e▸Dg)
 exact h q' p' ps' (by omega) Dg
theorem agZ {P:Prop} (h:P:=by
  obtain⟨k1,k2⟩:=he q p ps (dh _) hq
  by_cases e1:j=i
  ·subst e1;exact k1
  ·by_cases e2:j=k
   ·subst e2;exact k2
   ·exact h.cut q p ps j hq (by omega) (by omega)):P:=h
theorem Io.done  (h:Io N tl hd row cn ct i k nm ta) (he:IG N tl row cn ct i k nm ta 0) (hn:∀n q,hd n q->Ao (nm n) (named (ta q))):
  ET N tl hd row (AP cn i k nm) (AP ct i k ta) i k where
 cut:=λq p ps j hq h1 h2=>by
  have e:AP ct i k ta q i k=ta q:=by unfold AP;rw[ay ⟨rfl,rfl⟩]
  rw[e];exact agZ
 Jz:=λq hq=>by
  have e:AP ct i k ta q i k=ta q:=by unfold AP;rw[ay ⟨rfl,rfl⟩]
  rw[e];exact h.Jz q hq
 zi:=λn q hq=>by
  have e:AP ct i k ta q i k=ta q:=by unfold AP;rw[ay ⟨rfl,rfl⟩]
  have e2:AP cn i k nm n i k=nm n:=by unfold AP;rw[ay ⟨rfl,rfl⟩]
  rw[e,e2];exact hn n q hq
 Ny:=λq p ps hq=>by
  have e:AP ct i k ta q i k=ta q:=by unfold AP;rw[ay ⟨rfl,rfl⟩]
  rw[e]
  rcases h.Ny q p ps hq with h1 | ⟨j,h1,h2,h3⟩
  ·exact .inl h1
  ·refine .inr ⟨j,h1,h2,cQ ?_ h3⟩
   exact agZ
 Py:=λn hn'=>by
  have e:∀q,AP ct i k ta q i k=ta q:=λq=>by unfold AP;rw[ay ⟨rfl,rfl⟩]
  have e2:AP cn i k nm n i k=nm n:=by unfold AP;rw[ay ⟨rfl,rfl⟩]
  rw[e2]
  rcases h.Py n hn' with h1 | ⟨q,h1,h2⟩
  ·exact .inl h1
  ·refine .inr ⟨q,h1,?_⟩
   rw[e];exact cQ (hn n q h1) h2
theorem ET.other {a b:Nat} (h:ET N tl hd row cn ct a b)  (ho:i<a\/b<k):
  ET N tl hd row (AP cn i k nm) (AP ct i k ta) a b:=by
 have e1:∀n c d,a<=c->d<=b->AP cn i k nm n c d=cn n c d:=λn c d h1 h2=>by unfold AP;rw[aq (by omega)]
 have e2:∀n c d,a<=c->d<=b->AP ct i k ta n c d=ct n c d:=λn c d h1 h2=>by unfold AP;rw[aq (by omega)]
 have e3:∀p q j,a<=j->j<=b->DE N row (AP cn i k nm) (AP ct i k ta) p q a j b=DE N row cn ct p q a j b:=λp q j h1 h2=>by
  unfold DE;rw[e2 _ _ _ h1 (zn _)];cases p with
  |tok t=>rfl
  |zi n=>show GO (AP cn i k nm n a j) _=GO (cn n a j) _;rw[e1 _ _ _ (zn _) h2]
 refine⟨λq p ps j hq h1 h2=>?_,λq hq=>?_,λn q hq=>?_,λq p ps hq=>?_,λn hn=>?_⟩
 ·rw[e2 _ _ _ (zn _) (zn _),e3 _ _ _ h1 h2];exact h.cut q p ps j hq h1 h2
 ·rw[e2 _ _ _ (zn _) (zn _)];exact h.Jz q hq
 ·rw[e2 _ _ _ (zn _) (zn _),e1 _ _ _ (zn _) (zn _)];exact h.zi n q hq
 ·rw[e2 _ _ _ (zn _) (zn _)]
  rcases h.Ny q p ps hq with h1 | ⟨j,h1,h2,h3⟩
  ·exact .inl h1
  ·exact .inr ⟨j,h1,h2,by rw[e3 _ _ _ h1 h2];exact h3⟩
 ·rw[e1 _ _ _ (zn _) (zn _)]
  rcases h.Py n hn with h1 | ⟨q,h1,h2⟩
  ·exact .inl h1
  ·exact .inr ⟨q,h1,by rw[e2 _ _ _ (zn _) (zn _)];exact h2⟩
end
end
def MF:Option Pt->Bool
 |none=>false
 |some p=>AW p
def MC:Option Pt->Nat
 |none=>0
 |some p=>AV p
structure Aq where
 T:Am
 wb:Nat
 row:List Nat
 rv:Value
 gd:Nat
 cd:Nat
 gt:Nat
 ct:Nat
 zK:List (Option Pt)
 gh:Nat
 ch:Nat
 hds:List (List Nat)
 gp:Nat
structure Aq.In (Q:Aq) (w:World):Prop where
 tab:Q.T.In w
 bd:Q.T.Bd Q.gp
 blk:w.heap[Q.wb]?=some (.cells #[ac Q.T.tb,Q.rv,ae Q.gd (Q.row.length+1) Q.cd,ae Q.gt Q.zK.length Q.ct,ae Q.gh Q.T.N.nN Q.ch,ae Q.gp (Q.row.length+1) (Q.row.length+1)] 306 (0,0))
 aaf:Em w Q.gp Q.rv Q.row
 Uz:∀i,i<=Q.row.length->w.cell? (af Q.gd i)=some (ab (AY Q.T.N (Q.row.take i)))
 Sv:∀(q:Nat) (o:Option Pt),Q.zK[q]?=some o->w.cell? (af Q.gt (q*3))=some (.bool o.isNone)/\w.cell? (af Q.gt (q*3+1))=some (.bool (MF o))/\w.cell? (af Q.gt (q*3+2))=some (ab (MC o))
 hdc:∀(n:Nat) (l:List Nat),Q.hds[n]?=some l->∃v,w.cell? (af Q.gh n)=some v/\Em w Q.gp v l
 Et:Q.gp<w.heap.size
 Og:Q.wb<Q.gp
 gdl:Q.gd<Q.gp
 Xk:Q.gt<Q.gp
 ghl:Q.gh<Q.gp
 hl:Q.hds.length=Q.T.N.nN
 Sw:Q.zK.length<=1000
 Sx:Q.zK.length<=Q.ct
 Lc:∀(n:Nat) (l:List Nat),Q.hds[n]?=some l->l.length<=60/\∀q∈l,q<Q.zK.length
 rl:∀x∈Q.row,x<Q.T.N.nT
 Gi:Q.row.length<=100
 cdl:Q.row.length+1<=Q.cd
 chl:Q.T.N.nN<=Q.ch
 Xl:∀(q:Nat) (p:Pt),Q.zK[q]?=some (some p)->JQ Q.T.N p
theorem Aq.In.below {Q:Aq} (h:Q.In w) (hb:Below Q.gp w w'):Q.In w' where
 tab:=h.tab.below h.bd hb
 bd:=h.bd
 blk:=(hb.block Q.wb h.Og).trans h.blk
 aaf:=h.aaf.below hb
 Uz:=λi hi=>(hb.cell (by exact h.gdl)).trans (h.Uz i hi)
 Sv:=λq o ho=>⟨(hb.cell (by exact h.Xk)).trans (h.Sv q o ho).1,(hb.cell (by exact h.Xk)).trans (h.Sv q o ho).2.1,(hb.cell (by exact h.Xk)).trans (h.Sv q o ho).2.2⟩
 hdc:=λn l hl=>by
  obtain⟨v,h1,h2⟩:=h.hdc n l hl;exact⟨v,(hb.cell (by exact h.ghl)).trans h1,h2.below hb⟩
 Et:=lL h.Et hb.size
 Og:=h.Og
 gdl:=h.gdl
 Xk:=h.Xk
 ghl:=h.ghl
 hl:=h.hl
 Sw:=h.Sw
 Sx:=h.Sx
 Lc:=h.Lc
 rl:=h.rl
 Gi:=h.Gi
 cdl:=h.cdl
 chl:=h.chl
 Xl:=h.Xl
theorem Aq.In.At {Q:Aq} (h:Q.In w):Q.wb<w.heap.size:=ak h.blk
def IK (w:World) (g n:Nat) (f:Nat->Wt):Prop:=∀i,i<n->w.cell? (af g (i*2))=some (ab (f i).1)/\w.cell? (af g (i*2+1))=some (ab (f i).2)
theorem IK.below {g:Nat} (h:IK w g n f) (hb:Below B w w') (hg:g<B):IK w' g n f:=λi hi=>⟨(hb.cell Ef).trans (h i hi).1,(hb.cell Ef).trans (h i hi).2⟩
def Jn (Q:Aq) (w:World) (B i k:Nat) (f:Nat->Wt):Prop:=∃gi gn,gi<B/\gn<B/\w.cell? (af Q.gp i)=some (ae gi (Q.row.length+1) (Q.row.length+1))/\w.cell? (af gi (k*2))=some (ae gn Q.T.N.nN Q.T.N.nN)/\IK w gn Q.T.N.nN f
def Oh (Q:Aq) (w:World) (B i k:Nat) (f:Nat->Wt):Prop:=∃gi gq,gi<B/\gq<B/\w.cell? (af Q.gp i)=some (ae gi (Q.row.length+1) (Q.row.length+1))/\w.cell? (af gi (k*2+1))=some (ae gq Q.zK.length Q.zK.length)/\IK w gq Q.zK.length f
theorem Jn.below {Q:Aq} (h:Jn Q w B i k f) (hb:Below B w w') (hg:Q.gp<B):Jn Q w' B i k f:=by
 obtain⟨gi,gn,h1,h2,h3,h4,h5⟩:=h;exact⟨gi,gn,h1,h2,(hb.cell Ef).trans h3,(hb.cell (by exact h1)).trans h4,h5.below hb h2⟩
theorem Oh.below {Q:Aq} (h:Oh Q w B i k f) (hb:Below B w w') (hg:Q.gp<B):Oh Q w' B i k f:=by
 obtain⟨gi,gn,h1,h2,h3,h4,h5⟩:=h;exact⟨gi,gn,h1,h2,(hb.cell Ef).trans h3,(hb.cell (by exact h1)).trans h4,h5.below hb h2⟩
def WOk (a:Wt):Prop:=a.1<=8388608/\a.2<=939524097
theorem NP {N:NG} (row:List Nat)  (h:i<=j):AY N (row.take i)<=AY N (row.take j)/\AY N (row.take j) - AY N (row.take i)=EH N row i j:=by
 have e:row.take j=row.take i++(row.drop i).take (j - i):=by
  conv=>lhs;rw[show j=i+(j - i) by omega]
  rw[List.take_add]
 rw[e,P5];unfold EH;omega
theorem K1 {N:NG} (hN:N.Ok) {row:List Nat} (hr:∀x∈row,x<N.nT) (h:row.length<=100) (i:Nat):AY N (row.take i)<=9900:=by
 have h1:=PR hN (row:=row.take i) (λx hx=>hr x (yN hx));have h2:(row.take i).length<=row.length:=List.length_take_le' ..;omega
theorem lJ {Q:Aq} (hQ:Q.In w)  (hn:n<Q.T.N.nN) (hi:i<=Q.row.length) (hk:k<=Q.row.length) (hp:Jn Q w B i k f) (hB:B<=w.heap.size):
  Calls Tryz.prog 192 #[ac Q.wb,.agg #[.bool true,ab n],ab i,ab k] w λe w'=>e=.returned (Dt (f n))/\Below w.heap.size w w':=by
 obtain⟨gi,gn,h1,h2,c1,c2,c3⟩:=hp;obtain⟨c3,c4⟩:=c3 n hn;have c0:w.cell? (af Q.wb 5)=some (ae Q.gp (Q.row.length+1) (Q.row.length+1)):=(A0 hQ.blk).trans rfl;have Cs:=hQ.At;have ajE:=hQ.Gi;have Bi:=hQ.tab.fc.gr.Dm;obtain⟨L,hL⟩:=qF (Q.row.length+1);replace hi:i<L:=by omega
 replace hk:k<L:=by omega
 replace ajE:L<=101:=by omega
 obtain⟨nN,hN⟩:=qF (Q.T.N.nN);obtain⟨f1,hf1⟩:=qE ((f n).1);obtain⟨f2,hf2⟩:=qE ((f n).2);have Qe:Q.gp<w.heap.size:=by have:=bu _ _ c1;exact this
 rw[<-hL]at c0 c1;rw[<-hN]at hn c2 Bi;rw[hf1]at c3;rw[hf2]at c4;have HF:Hid (Dt (f n)=.agg #[ab f1,ab f2]):=hid (by unfold Dt;rw[hf1,hf2]);clear hQ hL hN hf1 hf2;have hb1:Below w.heap.size w ((w.alloc (.cells #[.bool true,ab n] 235)).alloc (.cells #[ab 0,ab 0] 313)):=((ah _ w).alloc (zn _) _).alloc (by simp) _;have z0:((w.alloc (.cells #[.bool true,ab n] 235)).alloc (.cells #[ab 0,ab 0] 313)).heap[w.heap.size]?=some (.cells #[.bool true,ab n] 235 (0,0)):=(dw _ _ _ (by simp)).trans (bg w _);have z1:=PB w (.cells #[.bool true,ab n] 235) #[ab 0,ab 0] 313 (0,0)
 go_enter Tryz.func192,Tryz.ntmps192
 go_upto_region 1 with fail
 obtain⟨W,hW⟩:=qE ((w.alloc (.cells #[.bool true,ab n] 235)).alloc (.cells #[ab 0,ab 0] 313));rw[hW]at hb1 z0 z1 ⊢;clear hW;have b0:W.cell? (af w.heap.size 0)=some (.bool true):=(A0 z0).trans rfl;have b1:W.cell? (af w.heap.size 1)=some (ab n):=(A0 z0).trans rfl;have r0:W.cell? (af (w.heap.size+1) 0)=some (ab 0):=(A0 z1).trans rfl;have r1:W.cell? (af (w.heap.size+1) 1)=some (ab 0):=(A0 z1).trans rfl;have s0:W.frozen? (af (w.heap.size+1) 0)=false:=A7 z1;have s1:W.frozen? (af (w.heap.size+1) 1)=false:=A7 z1;replace c0:=(hb1.cell (p:=(af Q.wb 5)) Iv).trans c0;replace c1:=(hb1.cell (p:=(af Q.gp i)) (by exact Qe)).trans c1;replace c2:=(hb1.cell (p:=(af gi (k*2))) (by show gi<w.heap.size;omega)).trans c2;replace c3:=(hb1.cell (p:=(af gn (n*2))) (by show gn<w.heap.size;omega)).trans c3;replace c4:=(hb1.cell (p:=(af gn (n*2+1))) (by show gn<w.heap.size;omega)).trans c4;have zL:=hid hb1
 have Qc:=hid z1;clear z0 z1 hb1
 go_upto_region 2 with fail
 refine AH (λw'=>(w'.cell? (af Q.wb 5)=some (ae Q.gp L L)/\w'.cell? (af Q.gp i)=some (ae gi L L)/\w'.cell? (af gi (k*2))=some (ae gn nN nN))/\w'.cell? (af gn (n*2))=some (ab f1)/\w'.cell? (af gn (n*2+1))=some (ab f2)/\w'.cell? (af w.heap.size 1)=some (ab n)) hmx yM ⟨⟨c0,c1,c2⟩,c3,c4,b1⟩ (λhH=>?_);simp only[AG,BP,AR];refine tB 0 hH ?_;refine tB 1 hH ?_;refine tB 2 hH ?_;refine tB 3 hH ?_;refine tB 4 hH ?_;refine tB 5 hH ?_;refine tB 6 hH ?_;refine tB 7 hH ?_;refine tB 8 hH ?_;refine tB 9 hH ?_;refine tB 10 hH ?_;refine tB 11 hH ?_;refine tB 12 hH ?_;refine tB 13 hH ?_;refine tB 14 hH ?_;refine tB 15 hH ?_;refine tL ?_;refine bq yM ?_ _;clear hH;show wpList _ _ _ _ _ _;go_wp2;refine⟨rfl,_,GC (p:=8) (ty:=313) rfl _ _ (w.heap.size+1) _ _ _ _ rfl (AA (j:=1) (AA (j:=0) Qc.out _) _) Tryz.underlying313 rfl yM,?_⟩;rw[HF.out];exact⟨rfl,((zL.out.setCell Vp _).setCell Vp _).drew⟩
theorem j2 {Q:Aq} (hQ:Q.In w) {t:Nat} (ht:t<Q.T.N.nT):
  Calls Tryz.prog 192 #[ac Q.wb,.agg #[.bool false,ab t],ab i,ab i] w λe w'=>e=.returned (Dt (Q.T.N.put t,1))/\Below w.heap.size w w':=by
 have c0:w.cell? (af Q.wb 0)=some (ac Q.T.tb):=(A0 hQ.blk).trans rfl;have Cs:=hQ.At;have Dh:Q.T.tb<w.heap.size:=hQ.tab.bd.tb;have Dx:=hQ.tab.fc.gr.Ch;obtain⟨c1,_⟩:=hQ.tab.tv.Cq;obtain⟨gT,Je,Bu,_,c2⟩:=hQ.tab.fc.gr.toks t ht;have Bu:gT<w.heap.size:=by have:=hQ.tab.bd.n0;omega
 rw[Je]at c1;obtain⟨nT,hN⟩:=qF (Q.T.N.nT);obtain⟨pt,Ca⟩:=qE (Q.T.N.put t);rw[<-hN]at ht c1 Dx;rw[Ca]at c2 ⊢;clear hQ hN Ca Je;have hb1:Below w.heap.size w ((w.alloc (.cells #[.bool false,ab t] 235)).alloc (.cells #[ab 0,ab 0] 313)):=((ah _ w).alloc (zn _) _).alloc (by simp) _;have z0:((w.alloc (.cells #[.bool false,ab t] 235)).alloc (.cells #[ab 0,ab 0] 313)).heap[w.heap.size]?=some (.cells #[.bool false,ab t] 235 (0,0)):=(dw _ _ _ (by simp)).trans (bg w _);have z1:=PB w (.cells #[.bool false,ab t] 235) #[ab 0,ab 0] 313 (0,0)
 go_enter Tryz.func192,Tryz.ntmps192
 go_upto_region 1 with fail
 obtain⟨W,hW⟩:=qE ((w.alloc (.cells #[.bool false,ab t] 235)).alloc (.cells #[ab 0,ab 0] 313));rw[hW]at hb1 z0 z1 ⊢;clear hW;have b0:W.cell? (af w.heap.size 0)=some (.bool false):=(A0 z0).trans rfl;have b1:W.cell? (af w.heap.size 1)=some (ab t):=(A0 z0).trans rfl;have r0:W.cell? (af (w.heap.size+1) 0)=some (ab 0):=(A0 z1).trans rfl;have r1:W.cell? (af (w.heap.size+1) 1)=some (ab 0):=(A0 z1).trans rfl;have s0:W.frozen? (af (w.heap.size+1) 0)=false:=A7 z1;have s1:W.frozen? (af (w.heap.size+1) 1)=false:=A7 z1;replace c0:=(hb1.cell (p:=(af Q.wb 0)) Iv).trans c0;replace c1:=(hb1.cell (p:=(af Q.T.tb 0)) (by exact Dh)).trans c1;replace c2:=(hb1.cell (p:=(af gT (t*4+1))) (by exact Bu)).trans c2;have zL:=hid hb1;have Qc:=hid z1;clear z0 z1 hb1
 go_upto_region 4 with fail
 refine AH (λw'=>w'.cell? (af Q.wb 0)=some (ac Q.T.tb)/\w'.cell? (af Q.T.tb 0)=some (ae gT nT Q.T.yT)/\w'.cell? (af gT (t*4+1))=some (ab pt)/\w'.cell? (af w.heap.size 1)=some (ab t)) hmx yM ⟨c0,c1,c2,b1⟩ (λhH=>?_);simp only[AG,BP,AR];refine tB 0 hH ?_;refine tB 1 hH ?_;refine tB 2 hH ?_;refine tB 3 hH ?_;refine tB 4 hH ?_;refine tB 5 hH ?_;refine tB 6 hH ?_;refine tB 7 hH ?_;refine tB 8 hH ?_;refine tB 9 hH ?_;refine tB 10 hH ?_;refine tB 11 hH ?_;refine tB 12 hH ?_;refine tB 13 hH ?_;refine tB 14 hH ?_;refine tB 15 hH ?_;refine tL ?_;refine bq yM ?_ _;clear hH;show wpList _ _ _ _ _ _;go_wp2;refine⟨rfl,_,GC (p:=8) (ty:=313) rfl _ _ (w.heap.size+1) _ _ _ _ rfl (AA (j:=1) (AA (j:=0) Qc.out _) _) Tryz.underlying313 rfl yM,?_⟩;exact⟨rfl,((zL.out.setCell Vp _).setCell Vp _).drew⟩
theorem jY {Q:Aq} (hQ:Q.In w) {t m:Nat} (ht:t<Q.T.N.nT) (hik:i<=m) (hk:m<Q.row.length):
  Calls Tryz.prog 192 #[ac Q.wb,.agg #[.bool false,ab t],ab i,ab (m+1:Nat)] w λe w'=>e=.returned (Dt (G9 Q.T.N Q.row t i (m+1)))/\Below w.heap.size w w':=by
 have c1:w.cell? (af Q.wb 1)=some Q.rv:=(A0 hQ.blk).trans rfl;have Cs:=hQ.At;obtain⟨x,hx,hx'⟩:=PD (row:=Q.row) (i:=m) (k:=m+1) (by omega) (by omega);rw[show m+1 - 1=m by omega]at hx hx';obtain⟨ad,cap,Cn,hcap,hrc⟩:=hQ.aaf;obtain⟨gr,off,rfl,hgr,hrc⟩:=hrc (by omega);have c3:=hrc m x hx;rw[Cn]at c1;have Va:=hQ.Et;have Kh:=hQ.Gi;have Kf:x<Q.T.N.nT:=hQ.rl x (mG hx);obtain⟨kc,hkc⟩:=qE (FQ Q.T.N x t);have al0:kc<=1048576:=by
  rw[<-hkc];unfold FQ KB
  by_cases h1:x=t
  ·rw[ay h1];simp
  ·rw[aq h1]
   by_cases h2:Q.T.N.swp x t=0
   ·rw[ay h2];exact zn _
   ·rw[aq h2]
    have:=hQ.tab.fc.gr.ok.acN x t;simp only[jq];omega
 obtain⟨hab,hdc⟩:=NP (N:=Q.T.N) Q.row hik;have hds:=K1 hQ.tab.fc.gr.ok hQ.rl hQ.Gi m;obtain⟨dc,aag⟩:=qE (EH Q.T.N Q.row i m);have ajF:dc<=9900:=by omega
 rw[aag]at hdc;have Vb:Hid (∀V,Below w.heap.size w V->Q.In V):=hid λV hb=>hQ.below (hb.mono (by omega))
 have HD:Hid (∀V,Below w.heap.size w V->Calls Tryz.prog 194 #[ac Q.wb,ab i,ab m] V λe w'=>e=.returned (ab dc)/\Below V.heap.size V w'):=hid λV hb=>by
  have hV:=Vb.out V hb;have h:=NA V Q.wb Q.gd (Q.row.length+1) Q.cd i m _ _ ((A0 hV.blk).trans rfl) (by omega) (by omega) (by omega) (hV.Uz i (by omega)) (hV.Uz m (by omega)) hab (by omega);rw[hdc]at h;exact h
 have HK:Hid (∀V,Below w.heap.size w V->Calls Tryz.prog 219 #[ac Q.wb,ab x,ab t] V λe w'=>e=.returned (ab kc)/\Below V.heap.size V w'):=hid λV hb=>by
  have hV:=Vb.out V hb;have h:=RU hV.tab.fc.gr hV.tab.fc.ln hV.tab.tv ((A0 hV.blk).trans rfl) x t Kf ht;rw[hkc]at h;exact h
 have HR:Hid (Dt (G9 Q.T.N Q.row t i (m+1))=.agg #[ab (dc+kc:Nat),ab 1]):=hid (by
  unfold G9 Dt;rw[aq (by omega),show m+1 - 1=m by omega,hx',hkc,aag];rfl)
 have hgr:gr<w.heap.size:=by omega
 obtain⟨L,hL⟩:=qF (Q.row.length);rw[<-hL]at hk hcap c1 Kh;have hne:((i:Int)==(m:Int)+1)=false:=by rw[mh];omega
 have hml:((m:Int)< (L:Int)):=by omega
 have hmw:IntKind.i64.wrap (m:Int)=(m:Int):=by rw[Db];omega
 have hm0:(0:Int)<=(m:Int):=by omega
 clear hQ hL hrc hx hx' hkc hdc aag hab Cn;have hb1:Below w.heap.size w ((w.alloc (.cells #[.bool false,ab t] 235)).alloc (.cells #[ab 0,ab 0] 313)):=((ah _ w).alloc (zn _) _).alloc (by simp) _;have z0:((w.alloc (.cells #[.bool false,ab t] 235)).alloc (.cells #[ab 0,ab 0] 313)).heap[w.heap.size]?=some (.cells #[.bool false,ab t] 235 (0,0)):=(dw _ _ _ (by simp)).trans (bg w _);have z1:=PB w (.cells #[.bool false,ab t] 235) #[ab 0,ab 0] 313 (0,0)
 go_enter Tryz.func192,Tryz.ntmps192
 go_upto_region 1 with fail
 obtain⟨W,hW⟩:=qE ((w.alloc (.cells #[.bool false,ab t] 235)).alloc (.cells #[ab 0,ab 0] 313));rw[hW]at hb1 z0 z1 ⊢;clear hW;have b0:W.cell? (af w.heap.size 0)=some (.bool false):=(A0 z0).trans rfl;have b1:W.cell? (af w.heap.size 1)=some (ab t):=(A0 z0).trans rfl;have r0:W.cell? (af (w.heap.size+1) 0)=some (ab 0):=(A0 z1).trans rfl;have r1:W.cell? (af (w.heap.size+1) 1)=some (ab 0):=(A0 z1).trans rfl;have s0:W.frozen? (af (w.heap.size+1) 0)=false:=A7 z1;have s1:W.frozen? (af (w.heap.size+1) 1)=false:=A7 z1;replace c1:=(hb1.cell (p:=(af Q.wb 1)) Iv).trans c1;replace c3:=(hb1.cell (p:=(af gr (off+m))) (by exact hgr)).trans c3;have zL:=hid hb1;have Qc:=hid z1;have hs1:w.heap.size+1<W.heap.size:=ak z1;clear z0 z1 hb1
 go_upto_region 5 with fail
 refine AH (λw'=>w'.cell? (af Q.wb 1)=some (.slice (some (af gr off)) L cap)/\w'.cell? (af gr (off+m))=some (ab x)/\w'.cell? (af w.heap.size 1)=some (ab t)) hmx yM ⟨c1,c3,b1⟩ (λhH=>?_);simp only[AG,BP,AR];refine tB 0 hH ?_;refine tB 1 hH ?_;refine tB 2 hH ?_;refine tB 3 hH ?_;refine tB 5 hH ?_;refine tB 6 hH ?_;refine tB 7 hH ?_;refine tB 8 hH ?_;refine tB 9 hH ?_;refine tB 10 hH ?_;refine tB 11 hH ?_;refine tB 12 hH ?_;refine tB 13 hH ?_;refine tB 14 hH ?_;refine tB 15 hH ?_;refine tL ?_;refine tS 4 λK hK=>?_
 refine tM ?_
 go_simp;refine(HD.out _ (zL.out.drew)).mono ?_;rintro e w4 ⟨rfl,hb4⟩;try dsimp only
 refine hK.out _ _ ?_ λhH=>?_
 ·exact⟨(hb4.cell aaE).trans hH.1,(hb4.cell (by show gr<W.heap.size;omega)).trans hH.2.1,(hb4.cell adO).trans hH.2.2⟩
 clear hK K;refine tL ?_;have Fx:W.heap.size<=w4.heap.size:=hb4.size;have Bk:Hid (Below w.heap.size w w4):=hid (zL.out.drew.trans (hb4.mono acw));have HW4:Hid (Below W.heap.size W w4):=hid ((ah _ W).drew.trans hb4);refine tS 16 λK hK=>?_
 refine tM ?_
 go_simp;refine(HK.out _ Bk.out).mono ?_;rintro e w5 ⟨rfl,zP⟩;try dsimp only
 refine hK.out _ _ ?_ λhH=>?_
 ·exact⟨(zP.cell aaD).trans hH.1,(zP.cell (by show gr<w4.heap.size;omega)).trans hH.2.1,(zP.cell (by show w.heap.size<w4.heap.size;omega)).trans hH.2.2⟩
 clear hK K;refine tB 17 hH ?_;refine tB 18 hH ?_;refine tB 19 hH ?_;refine tL ?_;refine bq yM ?_ _;have Jo:Hid (Below W.heap.size W w5):=hid (HW4.out.trans (zP.mono Fx));replace r0:=(Jo.out.cell (p:=(af (w.heap.size+1) 0)) Ts).trans r0;replace r1:=(Jo.out.cell (p:=(af (w.heap.size+1) 1)) Ts).trans r1;replace s0:=(Jo.out.frozen (p:=(af (w.heap.size+1) 0)) Ts).trans s0;replace s1:=(Jo.out.frozen (p:=(af (w.heap.size+1) 1)) Ts).trans s1;have HZ9:=hid ((Jo.out.block _ hs1).trans Qc.out);have Av:Hid (Below w.heap.size w w5):=hid (Bk.out.trans (zP.mono (by omega)));clear hH hb4 zP;show wpList _ _ _ _ _ _;go_wp2;refine⟨rfl,_,GC (p:=8) (ty:=313) rfl _ _ (w.heap.size+1) _ _ _ _ rfl (AA (j:=1) (AA (j:=0) HZ9.out _) _) Tryz.underlying313 rfl yM,?_⟩;rw[HR.out];exact⟨rfl,((Av.out.setCell Vp _).setCell Vp _)⟩
theorem VH {Q:Aq} (hQ:Q.In w) {cn:Nat->Nat->Nat->Wt} (hp:JQ Q.T.N p) (hik:i<=k) (hk:k<=Q.row.length) (Mz:∀n,p=.zi n->Jn Q w B i k (λn=>cn n i k)) (hB:B<=w.heap.size):
  Calls Tryz.prog 192 #[ac Q.wb,.agg #[.bool (AW p),ab (AV p)],ab i,ab k] w λe w'=>e=.returned (Dt (D9 Q.T.N Q.row cn p i k))/\Below w.heap.size w w':=by
 cases p with
 |zi n=>
  have h:=lJ hQ (n:=n) (i:=i) (k:=k) (f:=λn=>cn n i k) hp (by omega) hk (Mz n rfl) hB;rw[show AW (Pt.zi n)=true from rfl,show AV (Pt.zi n)=n from rfl,show D9 Q.T.N Q.row cn (.zi n) i k=cn n i k from rfl];exact h
 |tok t=>
  by_cases e:i=k
  ·subst e
   have h:=j2 hQ (t:=t) (i:=i) hp;have e2:D9 Q.T.N Q.row cn (.tok t) i i=(Q.T.N.put t,1):=by show G9 Q.T.N Q.row t i i=_;unfold G9;rw[ay rfl]
   rw[e2,show AW (Pt.tok t)=false from rfl,show AV (Pt.tok t)=t from rfl];exact h
  ·obtain⟨m,rfl⟩:∃m,k=m+1:=⟨k - 1,by omega⟩
   have h:=jY hQ (t:=t) (i:=i) (m:=m) hp (by omega) (by omega);rw[show AW (Pt.tok t)=false from rfl,show AV (Pt.tok t)=t from rfl,show D9 Q.T.N Q.row cn (.tok t) i (m+1)=G9 Q.T.N Q.row t i (m+1) from rfl];exact h
theorem S8 {Q:Aq} (hQ:Q.In w) {cn ct:Nat->Nat->Nat->Wt} (hq:Q.zK[q]?=some (some p)) (Kb:q+1<Q.zK.length) (hij:i<=j) (hjk:j<=k) (hk:k<=Q.row.length)
  (Mz:∀n,p=.zi n->Jn Q w B i j (λn=>cn n i j)) (htv:Oh Q w B j k (λq=>ct q j k)) (hB:B<=w.heap.size) (hw1:WOk (D9 Q.T.N Q.row cn p i j)) (hw2:WOk (ct (q+1) j k)):
  Calls Tryz.prog 234 #[ac Q.wb,ab q,ab i,ab j,ab k] w λe w'=>e=.returned (Dt (DE Q.T.N Q.row cn ct p q i j k))/\Below w.heap.size w w':=by
 have c3:w.cell? (af Q.wb 3)=some (ae Q.gt Q.zK.length Q.ct):=(A0 hQ.blk).trans rfl;have c5:w.cell? (af Q.wb 5)=some (ae Q.gp (Q.row.length+1) (Q.row.length+1)):=(A0 hQ.blk).trans rfl;obtain⟨_,t1,t2⟩:=hQ.Sv q _ hq;obtain⟨gi,gq,h1,h2,c6,c7,c8⟩:=htv;obtain⟨c8,c9⟩:=c8 (q+1) Kb;simp only at c8 c9;have Cs:=hQ.At;have Va:=hQ.Et;have ab0:Q.gt<w.heap.size:=by have:=hQ.Xk;omega
 have Kh:=hQ.Gi;have Dh:=hQ.Sw;have Qf:=hQ.Sx;have Dc:=hQ.Xl q p hq;have HO:Hid (∀V,Below w.heap.size w V->Calls Tryz.prog 192 #[ac Q.wb,.agg #[.bool (MF (some p)),ab (MC (some p))],ab i,ab j] V λe w'=>e=.returned (Dt (D9 Q.T.N Q.row cn p i j))/\Below V.heap.size V w'):=hid λV hb=>
  VH (hQ.below (hb.mono (by omega))) (B:=w.heap.size) Dc hij (by omega) (λn e=>by
   obtain⟨Sy,gn',z1,z2,z3,z4,z5⟩:=Mz n e;exact Jn.below ⟨Sy,gn',by omega,by omega,z3,z4,z5⟩ hb Va) hb.size
 obtain⟨pw,hpw⟩:=qE (D9 Q.T.N Q.row cn p i j);obtain⟨tw,Pg⟩:=qE (ct (q+1) j k);have HR:Hid (DE Q.T.N Q.row cn ct p q i j k=GO pw tw):=hid (by unfold DE;rw[hpw,Pg]);rw[hpw]at HO hw1;rw[Pg]at hw2 c8 c9;obtain⟨p1,p2⟩:=pw;obtain⟨t1',t2'⟩:=tw;simp only at c8 c9;have HP:Hid (∀V,Calls Tryz.prog 193 #[.agg #[ab p1,ab p2],.agg #[ab t1',ab t2']] V λe w'=>e=.returned (Dt (GO (p1,p2) (t1',t2')))/\Below V.heap.size V w'):=hid λV=>R7 p1 p2 t1' t2' (by have:=hw1.1;have:=hw2.1;simp only at*;omega) hw1.2 hw2.2 V
 obtain⟨bn,Bp⟩:=qE (MF (some p));obtain⟨np,hnp⟩:=qE (MC (some p));rw[Bp]at t1 HO;rw[hnp]at t2 HO;obtain⟨L,hL⟩:=qF (Q.row.length+1);obtain⟨nQ,Fq⟩:=qF (Q.zK.length);have hjL:j<L:=by omega
 have hkL:k<L:=by omega
 have Fh:L<=101:=by omega
 rw[<-hL]at c5 c6;rw[<-Fq]at c3 c7 Kb Dh Qf;have hqQ:q<nQ:=by omega
 have Mr:gi<w.heap.size:=by omega
 have Vc:gq<w.heap.size:=by omega
 have hqw:IntKind.i64.wrap ((q:Int)+1)=(q:Int)+1:=by rw[Db];omega
 have Ud:(0:Int)<=(q:Int)+1:=by omega
 have hqi:((q:Int)+1< (nQ:Int)):=by omega
 have hqt:((q:Int)+1).toNat=q+1:=by omega
 have Ah:Hid (Below w.heap.size w (w.alloc (.cells #[ab 0,ab 0] 313))):=hid ((ah _ w).alloc (zn _) _);have HZ0:Hid ((w.alloc (.cells #[ab 0,ab 0] 313)).heap[w.heap.size]?=some (.cells #[ab 0,ab 0] 313 (0,0))):=hid (bg w _);clear hQ hq Mz hw1 hw2 Bp hnp hL Fq hpw Pg Dc hij hjk hk h1 h2 hB
 go_enter Tryz.func234,Tryz.ntmps234
 go_upto_region 1 with fail
 obtain⟨W,hW⟩:=qE (w.alloc (.cells #[ab 0,ab 0] 313));rw[hW]at Ah HZ0 ⊢;clear hW;have hs1:w.heap.size<W.heap.size:=ak HZ0.out;replace c3:=(Ah.out.cell (p:=(af Q.wb 3)) Iv).trans c3;replace c5:=(Ah.out.cell (p:=(af Q.wb 5)) Iv).trans c5;replace t1:=(Ah.out.cell (p:=(af Q.gt (q*3+1))) (by exact ab0)).trans t1;replace t2:=(Ah.out.cell (p:=(af Q.gt (q*3+2))) (by exact ab0)).trans t2;replace c6:=(Ah.out.cell (p:=(af Q.gp j)) (by exact Va)).trans c6;replace c7:=(Ah.out.cell (p:=(af gi (k*2+1))) (by exact Mr)).trans c7;replace c8:=(Ah.out.cell (p:=(af gq ((q+1)*2))) (by exact Vc)).trans c8;replace c9:=(Ah.out.cell (p:=(af gq ((q+1)*2+1))) (by exact Vc)).trans c9;refine AH (λw'=>(w'.cell? (af Q.wb 3)=some (ae Q.gt nQ Q.ct)/\w'.cell? (af Q.wb 5)=some (ae Q.gp L L)/\w'.cell? (af Q.gt (q*3+1))=some (.bool bn)/\w'.cell? (af Q.gt (q*3+2))=some (ab np))/\w'.cell? (af Q.gp j)=some (ae gi L L)/\w'.cell? (af gi (k*2+1))=some (ae gq nQ nQ)/\w'.cell? (af gq ((q+1)*2))=some (ab t1')/\w'.cell? (af gq ((q+1)*2+1))=some (ab t2')) hmx yM ⟨⟨c3,c5,t1,t2⟩,c6,c7,c8,c9⟩ (λhH=>?_)
 simp only[AG,BP,AR];refine tB 0 hH ?_;refine tB 1 hH ?_;refine tB 2 hH ?_;refine tB 3 hH ?_;refine tB 4 hH ?_;refine tB 5 hH ?_;refine tB 6 hH ?_;refine tB 7 hH ?_;refine tB 8 hH ?_;refine tB 9 hH ?_;refine tB 10 hH ?_;refine tB 12 hH ?_;refine tB 13 hH ?_;refine tB 14 hH ?_;refine tB 15 hH ?_;refine tB 16 hH ?_;refine tB 17 hH ?_;refine tB 18 hH ?_;refine tB 19 hH ?_;refine tB 20 hH ?_;refine tB 21 hH ?_;refine tB 22 hH ?_;refine tB 23 hH ?_;refine tB 24 hH ?_;refine tB 25 hH ?_;refine tB 26 hH ?_;refine tL ?_;refine tS 11 λK hK=>?_
 refine tM ?_
 go_simp;refine(HO.out _ (Ah.out.drew)).mono ?_;rintro e w4 ⟨rfl,hb4⟩;unfold Dt;try dsimp only
 refine hK.out _ _ ?_ λhH=>?_
 ·exact⟨⟨(hb4.cell aaE).trans hH.1.1,(hb4.cell aaE).trans hH.1.2.1,(hb4.cell (by show Q.gt<W.heap.size;omega)).trans hH.1.2.2.1,(hb4.cell (by show Q.gt<W.heap.size;omega)).trans hH.1.2.2.2⟩,(hb4.cell (by show Q.gp<W.heap.size;omega)).trans hH.2.1,(hb4.cell (by show gi<W.heap.size;omega)).trans hH.2.2.1,(hb4.cell acC).trans hH.2.2.2.1,(hb4.cell acC).trans hH.2.2.2.2⟩
 clear hK K;refine tL ?_;have Fx:W.heap.size<=w4.heap.size:=hb4.size;have Bk:Hid (Below w.heap.size w w4):=hid (Ah.out.drew.trans (hb4.mono acw));have HW4:Hid (Below W.heap.size W w4):=hid ((ah _ W).drew.trans hb4);refine tS 27 λK hK=>?_
 refine tM ?_
 go_simp;refine(HP.out _).mono ?_;rintro e w5 ⟨rfl,zP⟩;unfold Dt;try dsimp only
 refine hK.out _ _ ?_ λhH=>?_
 ·exact⟨⟨(zP.cell aaD).trans hH.1.1,(zP.cell aaD).trans hH.1.2.1,(zP.cell (by show Q.gt<w4.heap.size;omega)).trans hH.1.2.2.1,(zP.cell (by show Q.gt<w4.heap.size;omega)).trans hH.1.2.2.2⟩,(zP.cell (by show Q.gp<w4.heap.size;omega)).trans hH.2.1,(zP.cell (by show gi<w4.heap.size;omega)).trans hH.2.2.1,(zP.cell (by show gq<w4.heap.size;omega)).trans hH.2.2.2.1,(zP.cell (by show gq<w4.heap.size;omega)).trans hH.2.2.2.2⟩
 clear hK K;refine tB 28 hH ?_;refine tL ?_;refine bq yM ?_ _;have Jo:Hid (Below W.heap.size W w5):=hid (HW4.out.trans (zP.mono Fx));have r0:=(Jo.out.cell (p:=(af w.heap.size 0)) Ts).trans ((A0 (j:=0) HZ0.out).trans rfl);have r1:=(Jo.out.cell (p:=(af w.heap.size 1)) Ts).trans ((A0 (j:=1) HZ0.out).trans rfl);have s0:=(Jo.out.frozen (p:=(af w.heap.size 0)) Ts).trans (A7 (j:=0) HZ0.out);have s1:=(Jo.out.frozen (p:=(af w.heap.size 1)) Ts).trans (A7 (j:=1) HZ0.out);have HZ9:=hid ((Jo.out.block _ hs1).trans HZ0.out);have Av:Hid (Below w.heap.size w w5):=hid (Bk.out.trans (zP.mono (by omega)));clear hH hb4 zP;show wpList _ _ _ _ _ _;go_wp2;refine⟨rfl,_,GC (p:=10) (ty:=313) rfl _ _ w.heap.size _ _ _ _ rfl (AA (j:=1) (AA (j:=0) HZ9.out _) _) Tryz.underlying313 rfl yM,?_⟩;rw[HR.out];exact⟨rfl,(Av.out.setCell Mu _).setCell Mu _⟩
end Go.Proofs.YtjjggdcnpndgjaaGreatDoor
