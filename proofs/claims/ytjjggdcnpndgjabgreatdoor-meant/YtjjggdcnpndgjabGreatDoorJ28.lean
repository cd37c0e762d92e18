import Derived.Test.YtjjggdcnpndgjabGreatDoorJ27
set_option linter.unusedSimpArgs false
set_option maxHeartbeats 4000000
set_option maxRecDepth 100000
namespace Go.Proofs.YtjjggdcnpndgjabGreatDoor
open Go.RowKit Go.Shelf
variable {B i j k n q:Nat}{f nm ta ta':Nat->Wt}{p:Pt}{w w':World}
section
def U8 (a b:Wt):Bool:=decide (a.1<b.1)||(decide (a.1=b.1)&&decide (a.2<b.2))
def BL (a b:Wt):Wt:=if U8 b a then b else a
theorem XL {a b:Wt}:U8 a b=true↔¬wle b a:=by
 unfold U8 wle;simp only[Bool.or_eq_true,Bool.and_eq_true,decide_eq_true_eq];omega
theorem RM (a b:Wt):wle (BL a b) a:=by
 unfold BL;split
 ·rename_i h
  have:=XL.1 h;unfold wle at*;omega
 ·exact FL a
theorem bM (a b:Wt):wle (BL a b) b:=by
 unfold BL;split
 ·exact FL b
 ·rename_i h
  have:¬¬wle a b:=fun h2=>h (XL.2 h2)
  exact Classical.not_not.1 this
theorem RV (a b:Wt):BL a b=a\/BL a b=b:=by
 unfold BL;split <;> simp
def AK (f:Nat->Nat->Nat->Wt) (i k:Nat) (g:Nat->Wt):Nat->Nat->Nat->Wt:=fun n a b=>if a=i/\b=k then g n else f n a b
def AZ (g:Nat->Wt) (n:Nat) (v:Wt):Nat->Wt:=fun m=>if m=n then v else g m
theorem fQ {g:Nat->Wt}{v:Wt} (h:wle v (g n)) (m:Nat):wle (AZ g n v m) (g m):=by
 unfold AZ;split
 ·rename_i e;rw[e];exact h
 ·exact FL _
theorem gA {f:Nat->Nat->Nat->Wt}{g g':Nat->Wt} (h:∀m,wle (g' m) (g m)) (n a b:Nat):wle (AK f i k g' n a b) (AK f i k g n a b):=by
 unfold AK;split
 ·exact h n
 ·exact FL _
section
variable (N:NG) (tl:Nat->Option (List Pt)) (hd:Nat->Nat->Prop) (row:List Nat) (cn ct:Nat->Nat->Nat->Wt) (i k:Nat)
def EQ (nm ta:Nat->Wt) (p:Pt) (q j:Nat):Wt:=D3 N row (AK cn i k nm) (AK ct i k ta) p q i j k
structure Mid (nm ta:Nat->Wt):Prop where
 nul:∀q,tl q=some []->ta q=if i=k then(0,0)else(AB,0)
 cut:∀q p ps j,tl q=some (p::ps)->i<j->j<k->wle (ta q) (EQ N row cn ct i k nm ta p q j)
 cutA:∀q p ps,tl q=some (p::ps)->ta q=(AB,0)\/∃j,i<=j/\j<=k/\wle (EQ N row cn ct i k nm ta p q j) (ta q)
 namA:∀n,n<N.nN->nm n=(AB,0)\/∃q,hd n q/\wle (named (ta q)) (nm n)
variable {N tl hd row cn ct i k}
theorem iQ {f g:Nat->Nat->Nat->Wt} (h:∀n a b,wle (f n a b) (g n a b)) (p:Pt) (a b:Nat):wle (CZ N row f p a b) (CZ N row g p a b):=by
 cases p with
 |tok t=>exact FL _
 |nam n=>exact h n a b
theorem YH {nm':Nat->Wt} (h:∀n,wle (nm' n) (nm n)) (h':∀n,wle (ta' n) (ta n)) (p:Pt) (q j:Nat):wle (EQ N row cn ct i k nm' ta' p q j) (EQ N row cn ct i k nm ta p q j):=
 XI (iQ (gA h) p i j) (gA h' (q+1) j k)
theorem UZ {nm':Nat->Wt} (h1:i<j) (h2:j<k):EQ N row cn ct i k nm' ta' p q j=EQ N row cn ct i k nm ta p q j:=by
 unfold EQ D3;have e1:CZ N row (AK cn i k nm') p i j=CZ N row (AK cn i k nm) p i j:=by
  cases p with
  |tok t=>rfl
  |nam n=>show AK cn i k nm' n i j=AK cn i k nm n i j;unfold AK;rw[if_neg (by omega),if_neg (by omega)]
 have e2:AK ct i k ta' (q+1) j k=AK ct i k ta (q+1) j k:=by unfold AK;rw[if_neg (by omega),if_neg (by omega)]
 rw[e1,e2]
theorem Mid.tail  (h:Mid N tl hd row cn ct i k nm ta) {ps:List Pt} (hq:tl q=some (p::ps))  (hj:i<=j) (hj':j<=k):
  Mid N tl hd row cn ct i k nm (AZ ta q (BL (ta q) (EQ N row cn ct i k nm ta p q j))):=by
 have hle:∀m,wle (AZ ta q (BL (ta q) (EQ N row cn ct i k nm ta p q j)) m) (ta m):=fQ (RM _ _);have hm:∀p' q' j',wle (EQ N row cn ct i k nm (AZ ta q (BL (ta q) (EQ N row cn ct i k nm ta p q j))) p' q' j') (EQ N row cn ct i k nm ta p' q' j'):=fun p' q' j'=>YH (fun _=>FL _) hle p' q' j'
 refine⟨fun q' hq'=>?_,fun q' p' ps' j' hq' h1 h2=>?_,fun q' p' ps' hq'=>?_,fun n hn=>?_⟩
 ·have:q'≠q:=fun e=>by rw[e,hq]at hq';cases hq'
  unfold AZ;rw[if_neg this];exact h.nul q' hq'
 ·rw[UZ (nm':=nm) (ta':=AZ ta q _) (nm:=nm) (ta:=ta) h1 h2]
  exact GF (hle q') (h.cut q' p' ps' j' hq' h1 h2)
 ·by_cases e:q'=q
  ·subst e
   rw[hq]at hq';injection hq' with hq'
   injection hq' with e1 e2
   subst e1;have es:AZ ta q' (BL (ta q') (EQ N row cn ct i k nm ta p q' j)) q'=BL (ta q') (EQ N row cn ct i k nm ta p q' j):=by unfold AZ;rw[if_pos rfl]
   rcases RV (ta q') (EQ N row cn ct i k nm ta p q' j)with e3 |e3
   ·rcases h.cutA q' p ps hq with h1 | ⟨j',h1,h2,h3⟩
    ·exact .inl (by rw[es,e3];exact h1)
    ·exact .inr ⟨j',h1,h2,by rw[es,e3];rw[e3]at hm;exact GF (hm p q' j') h3⟩
   ·refine .inr ⟨j,hj,hj',?_⟩
    rw[es];exact GF (hm p q' j) (by rw[e3];exact FL _)
  ·have es:AZ ta q (BL (ta q) (EQ N row cn ct i k nm ta p q j)) q'=ta q':=by unfold AZ;rw[if_neg e]
   rcases h.cutA q' p' ps' hq' with h1 | ⟨j',h1,h2,h3⟩
   ·exact .inl (by rw[es];exact h1)
   ·exact .inr ⟨j',h1,h2,by rw[es];exact GF (hm p' q' j') h3⟩
 ·rcases h.namA n hn with h1 | ⟨q',h1,h2⟩
  ·exact .inl h1
  ·exact .inr ⟨q',h1,GF (XI (hle q') (FL _)) h2⟩
theorem Mid.name  (h:Mid N tl hd row cn ct i k nm ta)  (hq:hd n q):
  Mid N tl hd row cn ct i k (AZ nm n (BL (nm n) (named (ta q)))) ta:=by
 have hle:∀m,wle (AZ nm n (BL (nm n) (named (ta q))) m) (nm m):=fQ (RM _ _);have hm:∀p' q' j',wle (EQ N row cn ct i k (AZ nm n (BL (nm n) (named (ta q)))) ta p' q' j') (EQ N row cn ct i k nm ta p' q' j'):=fun p' q' j'=>YH hle (fun _=>FL _) p' q' j'
 refine⟨h.nul,fun q' p' ps' j' hq' h1 h2=>?_,fun q' p' ps' hq'=>?_,fun m hm'=>?_⟩
 ·rw[UZ (nm':=AZ nm n _) (ta':=ta) (nm:=nm) (ta:=ta) h1 h2]
  exact h.cut q' p' ps' j' hq' h1 h2
 ·rcases h.cutA q' p' ps' hq' with h1 | ⟨j',h1,h2,h3⟩
  ·exact .inl h1
  ·exact .inr ⟨j',h1,h2,GF (hm p' q' j') h3⟩
 ·by_cases e:m=n
  ·subst e
   have es:AZ nm m (BL (nm m) (named (ta q))) m=BL (nm m) (named (ta q)):=by unfold AZ;rw[if_pos rfl]
   rw[es]
   rcases RV (nm m) (named (ta q))with e3 |e3
   ·rw[e3];exact h.namA m hm'
   ·rw[e3];exact .inr ⟨q,hq,FL _⟩
  ·have es:AZ nm n (BL (nm n) (named (ta q))) m=nm m:=by unfold AZ;rw[if_neg e]
   rw[es];exact h.namA m hm'
def I6 (N:NG) (tl:Nat->Option (List Pt)) (row:List Nat) (cn ct:Nat->Nat->Nat->Wt) (i k:Nat) (nm ta:Nat->Wt) (q0:Nat):Prop:=
 ∀q p ps,q0<=q->tl q=some (p::ps)->wle (ta q) (EQ N row cn ct i k nm ta p q i)/\wle (ta q) (EQ N row cn ct i k nm ta p q k)
theorem LZ  (h:ta' (q+1)=ta (q+1)):EQ N row cn ct i k nm ta' p q j=EQ N row cn ct i k nm ta p q j:=by
 unfold EQ D3;have:AK ct i k ta' (q+1) j k=AK ct i k ta (q+1) j k:=by unfold AK;rw[h]
 rw[this]
theorem I6.step {ps:List Pt} (h:I6 N tl row cn ct i k nm ta (q+1)) (hq:tl q=some (p::ps)) (ho:∀m,m≠q->ta' m=ta m)
  (he:ta' q=BL (BL (ta q) (EQ N row cn ct i k nm ta p q i)) (EQ N row cn ct i k nm ta p q k)):I6 N tl row cn ct i k nm ta' q:=by
 intro q' p' ps' hle hq'
 by_cases e:q'=q
 ·subst e
  rw[hq]at hq';injection hq' with hq'
  injection hq' with e1 _
  subst e1;rw[LZ (ta:=ta) (ho _ (by omega)),LZ (ta:=ta) (ho _ (by omega)),he];exact⟨GF (RM _ _) (bM _ _),bM _ _⟩
 ·have h1:=h q' p' ps' (by omega) hq'
  rw[LZ (ta:=ta) (ho _ (by omega)),LZ (ta:=ta) (ho _ (by omega)),ho _ e];exact h1
theorem I6.skip  (h:I6 N tl row cn ct i k nm ta (q+1)) (hq:∀p ps,tl q≠some (p::ps)):I6 N tl row cn ct i k nm ta q:=by
 intro q' p' ps' hle hq';have:q'≠q:=fun e=>hq p' ps' (e▸hq')
 exact h q' p' ps' (by omega) hq'
theorem Mz32 {P:Prop} (h:P:=by
  obtain⟨k1,k2⟩:=he q p ps (Nat.zero_le _) hq
  by_cases e1:j=i
  ·subst e1;exact k1
  ·by_cases e2:j=k
   ·subst e2;exact k2
   ·exact h.cut q p ps j hq (by omega) (by omega)):P:=h
theorem Mid.done  (h:Mid N tl hd row cn ct i k nm ta) (he:I6 N tl row cn ct i k nm ta 0) (hn:∀n q,hd n q->wle (nm n) (named (ta q))):
  EG N tl hd row (AK cn i k nm) (AK ct i k ta) i k where
 cut:=fun q p ps j hq h1 h2=>by
  have e:AK ct i k ta q i k=ta q:=by unfold AK;rw[if_pos ⟨rfl,rfl⟩]
  rw[e];exact Mz32
 nul:=fun q hq=>by
  have e:AK ct i k ta q i k=ta q:=by unfold AK;rw[if_pos ⟨rfl,rfl⟩]
  rw[e];exact h.nul q hq
 nam:=fun n q hq=>by
  have e:AK ct i k ta q i k=ta q:=by unfold AK;rw[if_pos ⟨rfl,rfl⟩]
  have e2:AK cn i k nm n i k=nm n:=by unfold AK;rw[if_pos ⟨rfl,rfl⟩]
  rw[e,e2];exact hn n q hq
 cutA:=fun q p ps hq=>by
  have e:AK ct i k ta q i k=ta q:=by unfold AK;rw[if_pos ⟨rfl,rfl⟩]
  rw[e]
  rcases h.cutA q p ps hq with h1 | ⟨j,h1,h2,h3⟩
  ·exact .inl h1
  ·refine .inr ⟨j,h1,h2,a8 ?_ h3⟩
   exact Mz32
 namA:=fun n hn'=>by
  have e:∀q,AK ct i k ta q i k=ta q:=fun q=>by unfold AK;rw[if_pos ⟨rfl,rfl⟩]
  have e2:AK cn i k nm n i k=nm n:=by unfold AK;rw[if_pos ⟨rfl,rfl⟩]
  rw[e2]
  rcases h.namA n hn' with h1 | ⟨q,h1,h2⟩
  ·exact .inl h1
  ·refine .inr ⟨q,h1,?_⟩
   rw[e];exact a8 (hn n q h1) h2
theorem EG.other {a b:Nat} (h:EG N tl hd row cn ct a b)  (ho:i<a\/b<k):
  EG N tl hd row (AK cn i k nm) (AK ct i k ta) a b:=by
 have e1:∀n c d,a<=c->d<=b->AK cn i k nm n c d=cn n c d:=fun n c d h1 h2=>by unfold AK;rw[if_neg (by omega)]
 have e2:∀n c d,a<=c->d<=b->AK ct i k ta n c d=ct n c d:=fun n c d h1 h2=>by unfold AK;rw[if_neg (by omega)]
 have e3:∀p q j,a<=j->j<=b->D3 N row (AK cn i k nm) (AK ct i k ta) p q a j b=D3 N row cn ct p q a j b:=fun p q j h1 h2=>by
  unfold D3;rw[e2 _ _ _ h1 (lR_ _)];cases p with
  |tok t=>rfl
  |nam n=>show GE (AK cn i k nm n a j) _=GE (cn n a j) _;rw[e1 _ _ _ (lR_ _) h2]
 refine⟨fun q p ps j hq h1 h2=>?_,fun q hq=>?_,fun n q hq=>?_,fun q p ps hq=>?_,fun n hn=>?_⟩
 ·rw[e2 _ _ _ (lR_ _) (lR_ _),e3 _ _ _ h1 h2];exact h.cut q p ps j hq h1 h2
 ·rw[e2 _ _ _ (lR_ _) (lR_ _)];exact h.nul q hq
 ·rw[e2 _ _ _ (lR_ _) (lR_ _),e1 _ _ _ (lR_ _) (lR_ _)];exact h.nam n q hq
 ·rw[e2 _ _ _ (lR_ _) (lR_ _)]
  rcases h.cutA q p ps hq with h1 | ⟨j,h1,h2,h3⟩
  ·exact .inl h1
  ·exact .inr ⟨j,h1,h2,by rw[e3 _ _ _ h1 h2];exact h3⟩
 ·rw[e1 _ _ _ (lR_ _) (lR_ _)]
  rcases h.namA n hn with h1 | ⟨q,h1,h2⟩
  ·exact .inl h1
  ·exact .inr ⟨q,h1,by rw[e2 _ _ _ (lR_ _) (lR_ _)];exact h2⟩
end
end
def M4:Option Pt->Bool
 |none=>false
 |some p=>AQ p
def M3:Option Pt->Nat
 |none=>0
 |some p=>AP p
structure Wts where
 T:Tab
 wb:Nat
 row:List Nat
 rv:Value
 gd:Nat
 cd:Nat
 gt:Nat
 ct:Nat
 tls:List (Option Pt)
 gh:Nat
 ch:Nat
 hds:List (List Nat)
 gp:Nat
structure Wts.In (Q:Wts) (w:World):Prop where
 tab:Q.T.In w
 bd:Q.T.Bd Q.gp
 blk:w.heap[Q.wb]?=some (.cells #[ac Q.T.tb,Q.rv,ae Q.gd (Q.row.length+1) Q.cd,ae Q.gt Q.tls.length Q.ct,ae Q.gh Q.T.N.nN Q.ch,ae Q.gp (Q.row.length+1) (Q.row.length+1)] 168 (0,0))
 rowc:RwV w Q.gp Q.rv Q.row
 drc:∀i,i<=Q.row.length->w.cell? (af Q.gd i)=some (ab (AU Q.T.N (Q.row.take i)))
 tlc:∀(q:Nat) (o:Option Pt),Q.tls[q]?=some o->w.cell? (af Q.gt (q*3))=some (.bool o.isNone)/\w.cell? (af Q.gt (q*3+1))=some (.bool (M4 o))/\w.cell? (af Q.gt (q*3+2))=some (ab (M3 o))
 hdc:∀(n:Nat) (l:List Nat),Q.hds[n]?=some l->∃v,w.cell? (af Q.gh n)=some v/\RwV w Q.gp v l
 gpl:Q.gp<w.heap.size
 wbl:Q.wb<Q.gp
 gdl:Q.gd<Q.gp
 gtl:Q.gt<Q.gp
 ghl:Q.gh<Q.gp
 hl:Q.hds.length=Q.T.N.nN
 tl20:Q.tls.length<=1000
 tlc2:Q.tls.length<=Q.ct
 hdl:∀(n:Nat) (l:List Nat),Q.hds[n]?=some l->l.length<=60/\∀q∈l,q<Q.tls.length
 rl:∀x∈Q.row,x<Q.T.N.nT
 r40:Q.row.length<=100
 cdl:Q.row.length+1<=Q.cd
 chl:Q.T.N.nN<=Q.ch
 pto:∀(q:Nat) (p:Pt),Q.tls[q]?=some (some p)->J8 Q.T.N p
theorem Wts.In.below {Q:Wts} (h:Q.In w) (hb:Below Q.gp w w'):Q.In w' where
 tab:=h.tab.below h.bd hb
 bd:=h.bd
 blk:=(hb.block Q.wb h.wbl).trans h.blk
 rowc:=h.rowc.below hb
 drc:=fun i hi=>(hb.cell (by exact h.gdl)).trans (h.drc i hi)
 tlc:=fun q o ho=>⟨(hb.cell (by exact h.gtl)).trans (h.tlc q o ho).1,(hb.cell (by exact h.gtl)).trans (h.tlc q o ho).2.1,(hb.cell (by exact h.gtl)).trans (h.tlc q o ho).2.2⟩
 hdc:=fun n l hl=>by
  obtain⟨v,h1,h2⟩:=h.hdc n l hl;exact⟨v,(hb.cell (by exact h.ghl)).trans h1,h2.below hb⟩
 gpl:=lL h.gpl hb.size
 wbl:=h.wbl
 gdl:=h.gdl
 gtl:=h.gtl
 ghl:=h.ghl
 hl:=h.hl
 tl20:=h.tl20
 tlc2:=h.tlc2
 hdl:=h.hdl
 rl:=h.rl
 r40:=h.r40
 cdl:=h.cdl
 chl:=h.chl
 pto:=h.pto
theorem Wts.In.wlt {Q:Wts} (h:Q.In w):Q.wb<w.heap.size:=lt_of_block h.blk
def GZ (w:World) (g n:Nat) (f:Nat->Wt):Prop:=∀i,i<n->w.cell? (af g (i*2))=some (ab (f i).1)/\w.cell? (af g (i*2+1))=some (ab (f i).2)
theorem GZ.below {g:Nat} (h:GZ w g n f) (hb:Below B w w') (hg:g<B):GZ w' g n f:=fun i hi=>⟨(hb.cell y12Z).trans (h i hi).1,(hb.cell y12Z).trans (h i hi).2⟩
def NmV (Q:Wts) (w:World) (B i k:Nat) (f:Nat->Wt):Prop:=∃gi gn,gi<B/\gn<B/\w.cell? (af Q.gp i)=some (ae gi (Q.row.length+1) (Q.row.length+1))/\w.cell? (af gi (k*2))=some (ae gn Q.T.N.nN Q.T.N.nN)/\GZ w gn Q.T.N.nN f
def TlV (Q:Wts) (w:World) (B i k:Nat) (f:Nat->Wt):Prop:=∃gi gq,gi<B/\gq<B/\w.cell? (af Q.gp i)=some (ae gi (Q.row.length+1) (Q.row.length+1))/\w.cell? (af gi (k*2+1))=some (ae gq Q.tls.length Q.tls.length)/\GZ w gq Q.tls.length f
theorem NmV.below {Q:Wts} (h:NmV Q w B i k f) (hb:Below B w w') (hg:Q.gp<B):NmV Q w' B i k f:=by
 obtain⟨gi,gn,h1,h2,h3,h4,h5⟩:=h;exact⟨gi,gn,h1,h2,(hb.cell y12Z).trans h3,(hb.cell (by exact h1)).trans h4,h5.below hb h2⟩
theorem TlV.below {Q:Wts} (h:TlV Q w B i k f) (hb:Below B w w') (hg:Q.gp<B):TlV Q w' B i k f:=by
 obtain⟨gi,gn,h1,h2,h3,h4,h5⟩:=h;exact⟨gi,gn,h1,h2,(hb.cell y12Z).trans h3,(hb.cell (by exact h1)).trans h4,h5.below hb h2⟩
def WOk (a:Wt):Prop:=a.1<=8388608/\a.2<=939524097
theorem NQ {N:NG} (row:List Nat)  (h:i<=j):AU N (row.take i)<=AU N (row.take j)/\AU N (row.take j) - AU N (row.take i)=E4 N row i j:=by
 have e:row.take j=row.take i++(row.drop i).take (j - i):=by
  conv=>lhs;rw[show j=i+(j - i) by omega]
  rw[List.take_add]
 rw[e,OJ];unfold E4;omega
theorem JQ {N:NG} (hN:N.Ok) {row:List Nat} (hr:∀x∈row,x<N.nT) (h:row.length<=100) (i:Nat):AU N (row.take i)<=9900:=by
 have h1:=Q4 hN (row:=row.take i) (fun x hx=>hr x (List.mem_of_mem_take hx));have h2:(row.take i).length<=row.length:=List.length_take_le' ..;omega
theorem kF {Q:Wts} (hQ:Q.In w)  (hn:n<Q.T.N.nN) (hi:i<=Q.row.length) (hk:k<=Q.row.length) (hp:NmV Q w B i k f) (hB:B<=w.heap.size):
  Calls Tryz.prog 82 #[ac Q.wb,.agg #[.bool true,ab n],ab i,ab k] w fun e w'=>e=.returned (wtV (f n))/\Below w.heap.size w w':=by
 obtain⟨gi,gn,h1,h2,c1,c2,c3⟩:=hp;obtain⟨c3,c4⟩:=c3 n hn;have c0:w.cell? (af Q.wb 5)=some (ae Q.gp (Q.row.length+1) (Q.row.length+1)):=(A0 hQ.blk).trans rfl;have hwl:=hQ.wlt;have hr40:=hQ.r40;have hn20:=hQ.tab.fc.gr.leN;obtain⟨L,hL⟩:=qF (Q.row.length+1);replace hi:i<L:=by omega
 replace hk:k<L:=by omega
 replace hr40:L<=101:=by omega
 obtain⟨nN,hN⟩:=qF (Q.T.N.nN);obtain⟨f1,hf1⟩:=qE ((f n).1);obtain⟨f2,hf2⟩:=qE ((f n).2);have hgp:Q.gp<w.heap.size:=by have:=World.block_lt_of_cell? _ _ c1;exact this
 rw[<-hL]at c0 c1;rw[<-hN]at hn c2 hn20;rw[hf1]at c3;rw[hf2]at c4;have HF:Hid (wtV (f n)=.agg #[ab f1,ab f2]):=hid (by unfold wtV;rw[hf1,hf2]);clear hQ hL hN hf1 hf2;have hb1:Below w.heap.size w ((w.alloc (.cells #[.bool true,ab n] 105)).alloc (.cells #[ab 0,ab 0] 175)):=((Below.refl _ w).alloc (lR_ _) _).alloc (by simp) _;have z0:((w.alloc (.cells #[.bool true,ab n] 105)).alloc (.cells #[ab 0,ab 0] 175)).heap[w.heap.size]?=some (.cells #[.bool true,ab n] 105 (0,0)):=(Below.heap_alloc _ _ _ (by simp)).trans (World.alloc_heap_new w _);have z1:=P2 w (.cells #[.bool true,ab n] 105) #[ab 0,ab 0] 175 (0,0)
 go_enter Tryz.func82,Tryz.ntmps82
 go_upto_region 1 with fail
 obtain⟨W,hW⟩:=qE ((w.alloc (.cells #[.bool true,ab n] 105)).alloc (.cells #[ab 0,ab 0] 175));rw[hW]at hb1 z0 z1 ⊢;clear hW;have b0:W.cell? (af w.heap.size 0)=some (.bool true):=(A0 z0).trans rfl;have b1:W.cell? (af w.heap.size 1)=some (ab n):=(A0 z0).trans rfl;have r0:W.cell? (af (w.heap.size+1) 0)=some (ab 0):=(A0 z1).trans rfl;have r1:W.cell? (af (w.heap.size+1) 1)=some (ab 0):=(A0 z1).trans rfl;have s0:W.frozen? (af (w.heap.size+1) 0)=false:=A3 z1;have s1:W.frozen? (af (w.heap.size+1) 1)=false:=A3 z1;replace c0:=(hb1.cell (p:=(af Q.wb 5)) y19Z).trans c0;replace c1:=(hb1.cell (p:=(af Q.gp i)) (by exact hgp)).trans c1;replace c2:=(hb1.cell (p:=(af gi (k*2))) (by show gi<w.heap.size;omega)).trans c2;replace c3:=(hb1.cell (p:=(af gn (n*2))) (by show gn<w.heap.size;omega)).trans c3;replace c4:=(hb1.cell (p:=(af gn (n*2+1))) (by show gn<w.heap.size;omega)).trans c4;have HB1:=hid hb1
 have HZ1:=hid z1;clear z0 z1 hb1
 go_upto_region 2 with fail
 refine AE (fun w'=>(w'.cell? (af Q.wb 5)=some (ae Q.gp L L)/\w'.cell? (af Q.gp i)=some (ae gi L L)/\w'.cell? (af gi (k*2))=some (ae gn nN nN))/\w'.cell? (af gn (n*2))=some (ab f1)/\w'.cell? (af gn (n*2+1))=some (ab f2)/\w'.cell? (af w.heap.size 1)=some (ab n)) hmx y1Z ⟨⟨c0,c1,c2⟩,c3,c4,b1⟩ (fun hH=>?_);simp only[AC,BM,AO];refine tB 0 hH ?_;refine tB 1 hH ?_;refine tB 2 hH ?_;refine tB 3 hH ?_;refine tB 4 hH ?_;refine tB 5 hH ?_;refine tB 6 hH ?_;refine tB 7 hH ?_;refine tB 8 hH ?_;refine tB 9 hH ?_;refine tB 10 hH ?_;refine tB 11 hH ?_;refine tB 12 hH ?_;refine tB 13 hH ?_;refine tB 14 hH ?_;refine tB 15 hH ?_;refine tL ?_;refine wpAnyH_done y1Z ?_ _;clear hH;show wpList _ _ _ _ _ _;go_wp2;refine⟨rfl,_,FV (p:=8) (ty:=175) rfl _ _ (w.heap.size+1) _ _ _ _ rfl (A5 (j:=1) (A5 (j:=0) HZ1.out _) _) Tryz.underlying175 rfl y1Z,?_⟩;rw[HF.out];exact⟨rfl,((HB1.out.setCell y11Z _).setCell y11Z _).drew⟩
theorem iO {Q:Wts} (hQ:Q.In w) {t:Nat} (ht:t<Q.T.N.nT):
  Calls Tryz.prog 82 #[ac Q.wb,.agg #[.bool false,ab t],ab i,ab i] w fun e w'=>e=.returned (wtV (Q.T.N.put t,1))/\Below w.heap.size w w':=by
 have c0:w.cell? (af Q.wb 0)=some (ac Q.T.tb):=(A0 hQ.blk).trans rfl;have hwl:=hQ.wlt;have htl:Q.T.tb<w.heap.size:=hQ.tab.bd.tb;have hT20:=hQ.tab.fc.gr.leT;obtain⟨c1,_⟩:=hQ.tab.tv.heads;obtain⟨gT,hgT,hgl,_,c2⟩:=hQ.tab.fc.gr.toks t ht;have hgl:gT<w.heap.size:=by have:=hQ.tab.bd.n0;omega
 rw[hgT]at c1;obtain⟨nT,hN⟩:=qF (Q.T.N.nT);obtain⟨pt,hpt⟩:=qE (Q.T.N.put t);rw[<-hN]at ht c1 hT20;rw[hpt]at c2 ⊢;clear hQ hN hpt hgT;have hb1:Below w.heap.size w ((w.alloc (.cells #[.bool false,ab t] 105)).alloc (.cells #[ab 0,ab 0] 175)):=((Below.refl _ w).alloc (lR_ _) _).alloc (by simp) _;have z0:((w.alloc (.cells #[.bool false,ab t] 105)).alloc (.cells #[ab 0,ab 0] 175)).heap[w.heap.size]?=some (.cells #[.bool false,ab t] 105 (0,0)):=(Below.heap_alloc _ _ _ (by simp)).trans (World.alloc_heap_new w _);have z1:=P2 w (.cells #[.bool false,ab t] 105) #[ab 0,ab 0] 175 (0,0)
 go_enter Tryz.func82,Tryz.ntmps82
 go_upto_region 1 with fail
 obtain⟨W,hW⟩:=qE ((w.alloc (.cells #[.bool false,ab t] 105)).alloc (.cells #[ab 0,ab 0] 175));rw[hW]at hb1 z0 z1 ⊢;clear hW;have b0:W.cell? (af w.heap.size 0)=some (.bool false):=(A0 z0).trans rfl;have b1:W.cell? (af w.heap.size 1)=some (ab t):=(A0 z0).trans rfl;have r0:W.cell? (af (w.heap.size+1) 0)=some (ab 0):=(A0 z1).trans rfl;have r1:W.cell? (af (w.heap.size+1) 1)=some (ab 0):=(A0 z1).trans rfl;have s0:W.frozen? (af (w.heap.size+1) 0)=false:=A3 z1;have s1:W.frozen? (af (w.heap.size+1) 1)=false:=A3 z1;replace c0:=(hb1.cell (p:=(af Q.wb 0)) y19Z).trans c0;replace c1:=(hb1.cell (p:=(af Q.T.tb 0)) (by exact htl)).trans c1;replace c2:=(hb1.cell (p:=(af gT (t*4+1))) (by exact hgl)).trans c2;have HB1:=hid hb1;have HZ1:=hid z1;clear z0 z1 hb1
 go_upto_region 4 with fail
 refine AE (fun w'=>w'.cell? (af Q.wb 0)=some (ac Q.T.tb)/\w'.cell? (af Q.T.tb 0)=some (ae gT nT Q.T.capT)/\w'.cell? (af gT (t*4+1))=some (ab pt)/\w'.cell? (af w.heap.size 1)=some (ab t)) hmx y1Z ⟨c0,c1,c2,b1⟩ (fun hH=>?_);simp only[AC,BM,AO];refine tB 0 hH ?_;refine tB 1 hH ?_;refine tB 2 hH ?_;refine tB 3 hH ?_;refine tB 4 hH ?_;refine tB 5 hH ?_;refine tB 6 hH ?_;refine tB 7 hH ?_;refine tB 8 hH ?_;refine tB 9 hH ?_;refine tB 10 hH ?_;refine tB 11 hH ?_;refine tB 12 hH ?_;refine tB 13 hH ?_;refine tB 14 hH ?_;refine tB 15 hH ?_;refine tL ?_;refine wpAnyH_done y1Z ?_ _;clear hH;show wpList _ _ _ _ _ _;go_wp2;refine⟨rfl,_,FV (p:=8) (ty:=175) rfl _ _ (w.heap.size+1) _ _ _ _ rfl (A5 (j:=1) (A5 (j:=0) HZ1.out _) _) Tryz.underlying175 rfl y1Z,?_⟩;exact⟨rfl,((HB1.out.setCell y11Z _).setCell y11Z _).drew⟩
theorem jW {Q:Wts} (hQ:Q.In w) {t m:Nat} (ht:t<Q.T.N.nT) (hik:i<=m) (hk:m<Q.row.length):
  Calls Tryz.prog 82 #[ac Q.wb,.agg #[.bool false,ab t],ab i,ab (m+1:Nat)] w fun e w'=>e=.returned (wtV (FQ Q.T.N Q.row t i (m+1)))/\Below w.heap.size w w':=by
 have c1:w.cell? (af Q.wb 1)=some Q.rv:=(A0 hQ.blk).trans rfl;have hwl:=hQ.wlt;obtain⟨x,hx,hx'⟩:=PS (row:=Q.row) (i:=m) (k:=m+1) (by omega) (by omega);rw[show m+1 - 1=m by omega]at hx hx';obtain⟨ad,cap,hrv,hcap,hrc⟩:=hQ.rowc;obtain⟨gr,off,rfl,hgr,hrc⟩:=hrc (by omega);have c3:=hrc m x hx;rw[hrv]at c1;have hgpl:=hQ.gpl;have hr100:=hQ.r40;have hxT:x<Q.T.N.nT:=hQ.rl x (mG hx);obtain⟨kc,hkc⟩:=qE (FC Q.T.N x t);have hkc2:kc<=1048576:=by
  rw[<-hkc];unfold FC JY
  by_cases h1:x=t
  ·rw[if_pos h1];simp
  ·rw[if_neg h1]
   by_cases h2:Q.T.N.swp x t=0
   ·rw[if_pos h2];exact lR_ _
   ·rw[if_neg h2]
    have:=hQ.tab.fc.gr.ok.swp2 x t;simp only[Option.getD_some];omega
 obtain⟨hab,hdc⟩:=NQ (N:=Q.T.N) Q.row hik;have hds:=JQ hQ.tab.fc.gr.ok hQ.rl hQ.r40 m;obtain⟨dc,hdc2⟩:=qE (E4 Q.T.N Q.row i m);have hdcl:dc<=9900:=by omega
 rw[hdc2]at hdc;have HIn:Hid (∀V,Below w.heap.size w V->Q.In V):=hid fun V hb=>hQ.below (hb.mono (by omega))
 have HD:Hid (∀V,Below w.heap.size w V->Calls Tryz.prog 84 #[ac Q.wb,ab i,ab m] V fun e w'=>e=.returned (ab dc)/\Below V.heap.size V w'):=hid fun V hb=>by
  have hV:=HIn.out V hb;have h:=MU V Q.wb Q.gd (Q.row.length+1) Q.cd i m _ _ ((A0 hV.blk).trans rfl) (by omega) (by omega) (by omega) (hV.drc i (by omega)) (hV.drc m (by omega)) hab (by omega);rw[hdc]at h;exact h
 have HK:Hid (∀V,Below w.heap.size w V->Calls Tryz.prog 109 #[ac Q.wb,ab x,ab t] V fun e w'=>e=.returned (ab kc)/\Below V.heap.size V w'):=hid fun V hb=>by
  have hV:=HIn.out V hb;have h:=QL hV.tab.fc.gr hV.tab.fc.ln hV.tab.tv ((A0 hV.blk).trans rfl) x t hxT ht;rw[hkc]at h;exact h
 have HR:Hid (wtV (FQ Q.T.N Q.row t i (m+1))=.agg #[ab (dc+kc:Nat),ab 1]):=hid (by
  unfold FQ wtV;rw[if_neg (by omega),show m+1 - 1=m by omega,hx',hkc,hdc2];rfl)
 have hgr:gr<w.heap.size:=by omega
 obtain⟨L,hL⟩:=qF (Q.row.length);rw[<-hL]at hk hcap c1 hr100;have hne:((i:Int)==(m:Int)+1)=false:=by rw[beq_eq_false_iff_ne];omega
 have hml:((m:Int)< (L:Int)):=by omega
 have hmw:IntKind.i64.wrap (m:Int)=(m:Int):=by rw[w64];omega
 have hm0:(0:Int)<=(m:Int):=by omega
 clear hQ hL hrc hx hx' hkc hdc hdc2 hab hrv;have hb1:Below w.heap.size w ((w.alloc (.cells #[.bool false,ab t] 105)).alloc (.cells #[ab 0,ab 0] 175)):=((Below.refl _ w).alloc (lR_ _) _).alloc (by simp) _;have z0:((w.alloc (.cells #[.bool false,ab t] 105)).alloc (.cells #[ab 0,ab 0] 175)).heap[w.heap.size]?=some (.cells #[.bool false,ab t] 105 (0,0)):=(Below.heap_alloc _ _ _ (by simp)).trans (World.alloc_heap_new w _);have z1:=P2 w (.cells #[.bool false,ab t] 105) #[ab 0,ab 0] 175 (0,0)
 go_enter Tryz.func82,Tryz.ntmps82
 go_upto_region 1 with fail
 obtain⟨W,hW⟩:=qE ((w.alloc (.cells #[.bool false,ab t] 105)).alloc (.cells #[ab 0,ab 0] 175));rw[hW]at hb1 z0 z1 ⊢;clear hW;have b0:W.cell? (af w.heap.size 0)=some (.bool false):=(A0 z0).trans rfl;have b1:W.cell? (af w.heap.size 1)=some (ab t):=(A0 z0).trans rfl;have r0:W.cell? (af (w.heap.size+1) 0)=some (ab 0):=(A0 z1).trans rfl;have r1:W.cell? (af (w.heap.size+1) 1)=some (ab 0):=(A0 z1).trans rfl;have s0:W.frozen? (af (w.heap.size+1) 0)=false:=A3 z1;have s1:W.frozen? (af (w.heap.size+1) 1)=false:=A3 z1;replace c1:=(hb1.cell (p:=(af Q.wb 1)) y19Z).trans c1;replace c3:=(hb1.cell (p:=(af gr (off+m))) (by exact hgr)).trans c3;have HB1:=hid hb1;have HZ1:=hid z1;have hs1:w.heap.size+1<W.heap.size:=lt_of_block z1;clear z0 z1 hb1
 go_upto_region 5 with fail
 refine AE (fun w'=>w'.cell? (af Q.wb 1)=some (.slice (some (af gr off)) L cap)/\w'.cell? (af gr (off+m))=some (ab x)/\w'.cell? (af w.heap.size 1)=some (ab t)) hmx y1Z ⟨c1,c3,b1⟩ (fun hH=>?_);simp only[AC,BM,AO];refine tB 0 hH ?_;refine tB 1 hH ?_;refine tB 2 hH ?_;refine tB 3 hH ?_;refine tB 5 hH ?_;refine tB 6 hH ?_;refine tB 7 hH ?_;refine tB 8 hH ?_;refine tB 9 hH ?_;refine tB 10 hH ?_;refine tB 11 hH ?_;refine tB 12 hH ?_;refine tB 13 hH ?_;refine tB 14 hH ?_;refine tB 15 hH ?_;refine tL ?_;refine tS 4 fun K hK=>?_
 refine tM ?_
 go_simp;refine(HD.out _ (HB1.out.drew)).mono ?_;rintro e w4 ⟨rfl,hb4⟩;try dsimp only
 refine hK.out _ _ ?_ fun hH=>?_
 ·exact⟨(hb4.cell y25Z).trans hH.1,(hb4.cell (by show gr<W.heap.size;omega)).trans hH.2.1,(hb4.cell y57Z).trans hH.2.2⟩
 clear hK K;refine tL ?_;have hs4:W.heap.size<=w4.heap.size:=hb4.size;have HB4:Hid (Below w.heap.size w w4):=hid (HB1.out.drew.trans (hb4.mono y33Z));have HW4:Hid (Below W.heap.size W w4):=hid ((Below.refl _ W).drew.trans hb4);refine tS 16 fun K hK=>?_
 refine tM ?_
 go_simp;refine(HK.out _ HB4.out).mono ?_;rintro e w5 ⟨rfl,hb5⟩;try dsimp only
 refine hK.out _ _ ?_ fun hH=>?_
 ·exact⟨(hb5.cell y23Z).trans hH.1,(hb5.cell (by show gr<w4.heap.size;omega)).trans hH.2.1,(hb5.cell (by show w.heap.size<w4.heap.size;omega)).trans hH.2.2⟩
 clear hK K;refine tB 17 hH ?_;refine tB 18 hH ?_;refine tB 19 hH ?_;refine tL ?_;refine wpAnyH_done y1Z ?_ _;have HW5:Hid (Below W.heap.size W w5):=hid (HW4.out.trans (hb5.mono hs4));replace r0:=(HW5.out.cell (p:=(af (w.heap.size+1) 0)) y48Z).trans r0;replace r1:=(HW5.out.cell (p:=(af (w.heap.size+1) 1)) y48Z).trans r1;replace s0:=(HW5.out.frozen (p:=(af (w.heap.size+1) 0)) y48Z).trans s0;replace s1:=(HW5.out.frozen (p:=(af (w.heap.size+1) 1)) y48Z).trans s1;have HZ9:=hid ((HW5.out.block _ hs1).trans HZ1.out);have HB5:Hid (Below w.heap.size w w5):=hid (HB4.out.trans (hb5.mono (by omega)));clear hH hb4 hb5;show wpList _ _ _ _ _ _;go_wp2;refine⟨rfl,_,FV (p:=8) (ty:=175) rfl _ _ (w.heap.size+1) _ _ _ _ rfl (A5 (j:=1) (A5 (j:=0) HZ9.out _) _) Tryz.underlying175 rfl y1Z,?_⟩;rw[HR.out];exact⟨rfl,((HB5.out.setCell y11Z _).setCell y11Z _)⟩
theorem UF {Q:Wts} (hQ:Q.In w) {cn:Nat->Nat->Nat->Wt} (hp:J8 Q.T.N p) (hik:i<=k) (hk:k<=Q.row.length) (hpc:∀n,p=.nam n->NmV Q w B i k (fun n=>cn n i k)) (hB:B<=w.heap.size):
  Calls Tryz.prog 82 #[ac Q.wb,.agg #[.bool (AQ p),ab (AP p)],ab i,ab k] w fun e w'=>e=.returned (wtV (CZ Q.T.N Q.row cn p i k))/\Below w.heap.size w w':=by
 cases p with
 |nam n=>
  have h:=kF hQ (n:=n) (i:=i) (k:=k) (f:=fun n=>cn n i k) hp (by omega) hk (hpc n rfl) hB;rw[show AQ (Pt.nam n)=true from rfl,show AP (Pt.nam n)=n from rfl,show CZ Q.T.N Q.row cn (.nam n) i k=cn n i k from rfl];exact h
 |tok t=>
  by_cases e:i=k
  ·subst e
   have h:=iO hQ (t:=t) (i:=i) hp;have e2:CZ Q.T.N Q.row cn (.tok t) i i=(Q.T.N.put t,1):=by show FQ Q.T.N Q.row t i i=_;unfold FQ;rw[if_pos rfl]
   rw[e2,show AQ (Pt.tok t)=false from rfl,show AP (Pt.tok t)=t from rfl];exact h
  ·obtain⟨m,rfl⟩:∃m,k=m+1:=⟨k - 1,by omega⟩
   have h:=jW hQ (t:=t) (i:=i) (m:=m) hp (by omega) (by omega);rw[show AQ (Pt.tok t)=false from rfl,show AP (Pt.tok t)=t from rfl,show CZ Q.T.N Q.row cn (.tok t) i (m+1)=FQ Q.T.N Q.row t i (m+1) from rfl];exact h
theorem R4 {Q:Wts} (hQ:Q.In w) {cn ct:Nat->Nat->Nat->Wt} (hq:Q.tls[q]?=some (some p)) (hq1:q+1<Q.tls.length) (hij:i<=j) (hjk:j<=k) (hk:k<=Q.row.length)
  (hpc:∀n,p=.nam n->NmV Q w B i j (fun n=>cn n i j)) (htv:TlV Q w B j k (fun q=>ct q j k)) (hB:B<=w.heap.size) (hw1:WOk (CZ Q.T.N Q.row cn p i j)) (hw2:WOk (ct (q+1) j k)):
  Calls Tryz.prog 126 #[ac Q.wb,ab q,ab i,ab j,ab k] w fun e w'=>e=.returned (wtV (D3 Q.T.N Q.row cn ct p q i j k))/\Below w.heap.size w w':=by
 have c3:w.cell? (af Q.wb 3)=some (ae Q.gt Q.tls.length Q.ct):=(A0 hQ.blk).trans rfl;have c5:w.cell? (af Q.wb 5)=some (ae Q.gp (Q.row.length+1) (Q.row.length+1)):=(A0 hQ.blk).trans rfl;obtain⟨_,t1,t2⟩:=hQ.tlc q _ hq;obtain⟨gi,gq,h1,h2,c6,c7,c8⟩:=htv;obtain⟨c8,c9⟩:=c8 (q+1) hq1;simp only at c8 c9;have hwl:=hQ.wlt;have hgpl:=hQ.gpl;have hgtl:Q.gt<w.heap.size:=by have:=hQ.gtl;omega
 have hr100:=hQ.r40;have htl:=hQ.tl20;have htc:=hQ.tlc2;have hpo:=hQ.pto q p hq;have HO:Hid (∀V,Below w.heap.size w V->Calls Tryz.prog 82 #[ac Q.wb,.agg #[.bool (M4 (some p)),ab (M3 (some p))],ab i,ab j] V fun e w'=>e=.returned (wtV (CZ Q.T.N Q.row cn p i j))/\Below V.heap.size V w'):=hid fun V hb=>
  UF (hQ.below (hb.mono (by omega))) (B:=w.heap.size) hpo hij (by omega) (fun n e=>by
   obtain⟨gi',gn',z1,z2,z3,z4,z5⟩:=hpc n e;exact NmV.below ⟨gi',gn',by omega,by omega,z3,z4,z5⟩ hb hgpl) hb.size
 obtain⟨pw,hpw⟩:=qE (CZ Q.T.N Q.row cn p i j);obtain⟨tw,htw⟩:=qE (ct (q+1) j k);have HR:Hid (D3 Q.T.N Q.row cn ct p q i j k=GE pw tw):=hid (by unfold D3;rw[hpw,htw]);rw[hpw]at HO hw1;rw[htw]at hw2 c8 c9;obtain⟨p1,p2⟩:=pw;obtain⟨t1',t2'⟩:=tw;simp only at c8 c9;have HP:Hid (∀V,Calls Tryz.prog 83 #[.agg #[ab p1,ab p2],.agg #[ab t1',ab t2']] V fun e w'=>e=.returned (wtV (GE (p1,p2) (t1',t2')))/\Below V.heap.size V w'):=hid fun V=>QI p1 p2 t1' t2' (by have:=hw1.1;have:=hw2.1;simp only at*;omega) hw1.2 hw2.2 V
 obtain⟨bn,hbn⟩:=qE (M4 (some p));obtain⟨np,hnp⟩:=qE (M3 (some p));rw[hbn]at t1 HO;rw[hnp]at t2 HO;obtain⟨L,hL⟩:=qF (Q.row.length+1);obtain⟨nQ,hnQ⟩:=qF (Q.tls.length);have hjL:j<L:=by omega
 have hkL:k<L:=by omega
 have hL1:L<=101:=by omega
 rw[<-hL]at c5 c6;rw[<-hnQ]at c3 c7 hq1 htl htc;have hqQ:q<nQ:=by omega
 have hgi:gi<w.heap.size:=by omega
 have hgq:gq<w.heap.size:=by omega
 have hqw:IntKind.i64.wrap ((q:Int)+1)=(q:Int)+1:=by rw[w64];omega
 have hq0:(0:Int)<=(q:Int)+1:=by omega
 have hqi:((q:Int)+1< (nQ:Int)):=by omega
 have hqt:((q:Int)+1).toNat=q+1:=by omega
 have HB0:Hid (Below w.heap.size w (w.alloc (.cells #[ab 0,ab 0] 175))):=hid ((Below.refl _ w).alloc (lR_ _) _);have HZ0:Hid ((w.alloc (.cells #[ab 0,ab 0] 175)).heap[w.heap.size]?=some (.cells #[ab 0,ab 0] 175 (0,0))):=hid (World.alloc_heap_new w _);clear hQ hq hpc hw1 hw2 hbn hnp hL hnQ hpw htw hpo hij hjk hk h1 h2 hB
 go_enter Tryz.func126,Tryz.ntmps126
 go_upto_region 1 with fail
 obtain⟨W,hW⟩:=qE (w.alloc (.cells #[ab 0,ab 0] 175));rw[hW]at HB0 HZ0 ⊢;clear hW;have hs1:w.heap.size<W.heap.size:=lt_of_block HZ0.out;replace c3:=(HB0.out.cell (p:=(af Q.wb 3)) y19Z).trans c3;replace c5:=(HB0.out.cell (p:=(af Q.wb 5)) y19Z).trans c5;replace t1:=(HB0.out.cell (p:=(af Q.gt (q*3+1))) (by exact hgtl)).trans t1;replace t2:=(HB0.out.cell (p:=(af Q.gt (q*3+2))) (by exact hgtl)).trans t2;replace c6:=(HB0.out.cell (p:=(af Q.gp j)) (by exact hgpl)).trans c6;replace c7:=(HB0.out.cell (p:=(af gi (k*2+1))) (by exact hgi)).trans c7;replace c8:=(HB0.out.cell (p:=(af gq ((q+1)*2))) (by exact hgq)).trans c8;replace c9:=(HB0.out.cell (p:=(af gq ((q+1)*2+1))) (by exact hgq)).trans c9;refine AE (fun w'=>(w'.cell? (af Q.wb 3)=some (ae Q.gt nQ Q.ct)/\w'.cell? (af Q.wb 5)=some (ae Q.gp L L)/\w'.cell? (af Q.gt (q*3+1))=some (.bool bn)/\w'.cell? (af Q.gt (q*3+2))=some (ab np))/\w'.cell? (af Q.gp j)=some (ae gi L L)/\w'.cell? (af gi (k*2+1))=some (ae gq nQ nQ)/\w'.cell? (af gq ((q+1)*2))=some (ab t1')/\w'.cell? (af gq ((q+1)*2+1))=some (ab t2')) hmx y1Z ⟨⟨c3,c5,t1,t2⟩,c6,c7,c8,c9⟩ (fun hH=>?_)
 simp only[AC,BM,AO];refine tB 0 hH ?_;refine tB 1 hH ?_;refine tB 2 hH ?_;refine tB 3 hH ?_;refine tB 4 hH ?_;refine tB 5 hH ?_;refine tB 6 hH ?_;refine tB 7 hH ?_;refine tB 8 hH ?_;refine tB 9 hH ?_;refine tB 10 hH ?_;refine tB 12 hH ?_;refine tB 13 hH ?_;refine tB 14 hH ?_;refine tB 15 hH ?_;refine tB 16 hH ?_;refine tB 17 hH ?_;refine tB 18 hH ?_;refine tB 19 hH ?_;refine tB 20 hH ?_;refine tB 21 hH ?_;refine tB 22 hH ?_;refine tB 23 hH ?_;refine tB 24 hH ?_;refine tB 25 hH ?_;refine tB 26 hH ?_;refine tL ?_;refine tS 11 fun K hK=>?_
 refine tM ?_
 go_simp;refine(HO.out _ (HB0.out.drew)).mono ?_;rintro e w4 ⟨rfl,hb4⟩;unfold wtV;try dsimp only
 refine hK.out _ _ ?_ fun hH=>?_
 ·exact⟨⟨(hb4.cell y25Z).trans hH.1.1,(hb4.cell y25Z).trans hH.1.2.1,(hb4.cell (by show Q.gt<W.heap.size;omega)).trans hH.1.2.2.1,(hb4.cell (by show Q.gt<W.heap.size;omega)).trans hH.1.2.2.2⟩,(hb4.cell (by show Q.gp<W.heap.size;omega)).trans hH.2.1,(hb4.cell (by show gi<W.heap.size;omega)).trans hH.2.2.1,(hb4.cell y55Z).trans hH.2.2.2.1,(hb4.cell y55Z).trans hH.2.2.2.2⟩
 clear hK K;refine tL ?_;have hs4:W.heap.size<=w4.heap.size:=hb4.size;have HB4:Hid (Below w.heap.size w w4):=hid (HB0.out.drew.trans (hb4.mono y33Z));have HW4:Hid (Below W.heap.size W w4):=hid ((Below.refl _ W).drew.trans hb4);refine tS 27 fun K hK=>?_
 refine tM ?_
 go_simp;refine(HP.out _).mono ?_;rintro e w5 ⟨rfl,hb5⟩;unfold wtV;try dsimp only
 refine hK.out _ _ ?_ fun hH=>?_
 ·exact⟨⟨(hb5.cell y23Z).trans hH.1.1,(hb5.cell y23Z).trans hH.1.2.1,(hb5.cell (by show Q.gt<w4.heap.size;omega)).trans hH.1.2.2.1,(hb5.cell (by show Q.gt<w4.heap.size;omega)).trans hH.1.2.2.2⟩,(hb5.cell (by show Q.gp<w4.heap.size;omega)).trans hH.2.1,(hb5.cell (by show gi<w4.heap.size;omega)).trans hH.2.2.1,(hb5.cell (by show gq<w4.heap.size;omega)).trans hH.2.2.2.1,(hb5.cell (by show gq<w4.heap.size;omega)).trans hH.2.2.2.2⟩
 clear hK K;refine tB 28 hH ?_;refine tL ?_;refine wpAnyH_done y1Z ?_ _;have HW5:Hid (Below W.heap.size W w5):=hid (HW4.out.trans (hb5.mono hs4));have r0:=(HW5.out.cell (p:=(af w.heap.size 0)) y48Z).trans ((A0 (j:=0) HZ0.out).trans rfl);have r1:=(HW5.out.cell (p:=(af w.heap.size 1)) y48Z).trans ((A0 (j:=1) HZ0.out).trans rfl);have s0:=(HW5.out.frozen (p:=(af w.heap.size 0)) y48Z).trans (A3 (j:=0) HZ0.out);have s1:=(HW5.out.frozen (p:=(af w.heap.size 1)) y48Z).trans (A3 (j:=1) HZ0.out);have HZ9:=hid ((HW5.out.block _ hs1).trans HZ0.out);have HB5:Hid (Below w.heap.size w w5):=hid (HB4.out.trans (hb5.mono (by omega)));clear hH hb4 hb5;show wpList _ _ _ _ _ _;go_wp2;refine⟨rfl,_,FV (p:=10) (ty:=175) rfl _ _ w.heap.size _ _ _ _ rfl (A5 (j:=1) (A5 (j:=0) HZ9.out _) _) Tryz.underlying175 rfl y1Z,?_⟩;rw[HR.out];exact⟨rfl,(HB5.out.setCell y24Z _).setCell y24Z _⟩
end Go.Proofs.YtjjggdcnpndgjabGreatDoor
