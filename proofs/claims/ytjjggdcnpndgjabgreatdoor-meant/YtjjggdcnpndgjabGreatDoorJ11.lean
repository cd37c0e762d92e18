import Derived.Test.YtjjggdcnpndgjabGreatDoorJ10
set_option linter.unusedSimpArgs false
set_option maxHeartbeats 2000000
set_option maxRecDepth 100000
namespace Go.Proofs.YtjjggdcnpndgjabGreatDoor
open Go.RowKit Go.Shelf
variable {B T b cap e g j k n x:Nat}{L:List (List (List Pt))}{S dr pu:List Nat}{ck cn gk gn sg:Nat->Nat}{cr gr:Nat->Nat->Nat}{rs:List (List Pt)}{sw:List (List Nat)}{v vD vP vR vS:Value}{w w1:World}{xs:List Value}
section
def IK (l:List Nat):List Value:=l.map fun(x:Nat)=>ab (x:Int)
structure EM (w:World) (B b T:Nat) (pu dr:List Nat) (sw:List (List Nat)) (vR vP vD vS:Value) (sg:Nat->Nat):Prop where
 blk:w.heap[b]?=some (.cells #[vR,vP,vD,vS] 46 (0,0))
 hb:B<=b
 puts:w.ownsRow B 3 1 vP pu.length (IK pu)
 drops:w.ownsRow B 3 1 vD dr.length (IK dr)
 swaps:w.ownsRow B 22 1 vS sw.length ((List.range sw.length).map fun i=>Value.slice (some ⟨sg i,0,none⟩) T T)
 rows:∀(i:Nat) r,sw[i]?=some r->w.heap[sg i]?=some (.cells (IK r).toArray 3 (0,0))/\B<=sg i/\r.length=T
 pd:∀g,vP.ownBlock=some g->vD.ownBlock≠some g
 ps:∀(i:Nat),i<sw.length->vP.ownBlock≠some (sg i)/\vD.ownBlock≠some (sg i)
 inj:∀(i j:Nat),i<sw.length->j<sw.length->sg i=sg j->i=j
section
variable {w w1:World}{B b T:Nat}{pu dr:List Nat}{sw:List (List Nat)}{vR vP vD vS:Value}{sg:Nat->Nat}
theorem EM.cells (h:EM w B b T pu dr sw vR vP vD vS sg):w.cell? (af b 0)=some vR/\w.cell? (af b 1)=some vP/\w.cell? (af b 2)=some vD/\w.cell? (af b 3)=some vS:=
 ⟨A0 h.blk,A0 h.blk,A0 h.blk,A0 h.blk⟩
theorem EM.keeps  (h:EM w B b T pu dr sw vR vP vD vS sg) (hk:A1 w w1 S) (hi:Off w S 3) (hs:Off w S 22) (hm:Off w S 46):EM w1 B b T pu dr sw vR vP vD vS sg where
 blk:=(hk.block b (lt_of_block h.blk) (hm b _ h.blk)).trans h.blk
 hb:=h.hb
 puts:=A8 h.puts hk (F7 h.puts hi)
 drops:=A8 h.drops hk (F7 h.drops hi)
 swaps:=A8 h.swaps hk (F7 h.swaps hs)
 rows:=fun i r hr=>by
  obtain⟨h1,h2,h3⟩:=h.rows i r hr;exact⟨(hk.block _ (lt_of_block h1) (hi _ _ h1)).trans h1,h2,h3⟩
 pd:=h.pd
 ps:=h.ps
 inj:=h.inj
theorem EM.below (h:EM w B b T pu dr sw vR vP vD vS sg) (hb:Below w.heap.size w w1):EM w1 B b T pu dr sw vR vP vD vS sg:=
 h.keeps (A1.of_below hb []) (GU _ _) (GU _ _) (GU _ _)
theorem EM.addPut  (h:EM w B b T pu dr sw vR vP vD vS sg) (hk:A1 w w1 vP.ownBlock.toList) (hg:vP.ownBlock=some g\/w.heap.size<=g)
  (hown:w1.ownsRow B 3 1 (ae g (pu.length+1) cap) (pu.length+1) (IK pu++ [ab (x:Int)])):
  EM (w1.setCell (af b 1) (ae g (pu.length+1) cap)) B b T (pu++ [x]) dr sw vR (ae g (pu.length+1) cap) vD vS sg:=by
 have hb1:=(hk.block b (lt_of_block h.blk) (fun hm=>A6 h.puts h.blk (by decide) (BE hm))).trans h.blk;have hgd:vD.ownBlock≠some g:=fun e=>by
  rcases hg with hg |hg
  ·exact h.pd g hg e
  ·have:=CK h.drops e;omega
 have hgs:∀i,i<sw.length->g≠sg i:=fun i hi e=>by
  obtain⟨r,hr⟩:∃r,sw[i]?=some r:=⟨_,gE hi⟩;have h1:=lt_of_block (h.rows i r hr).1
  rcases hg with hg |hg
  ·exact(h.ps i hi).1 (by rw[hg,e])
  ·omega
 refine⟨A5 hb1 _,h.hb,?_,?_,?_,fun i r hr=>?_,fun g' hg'=>?_,fun i hi=>⟨fun e=>?_,(h.ps i hi).2⟩,h.inj⟩
 ·have e:IK (pu++ [x])=IK pu++ [ab (x:Int)]:=by simp[IK]
  rw[e,lA];exact C2 hown hb1 (by decide)
 ·exact J7 h.drops hk (fun g' hg' hm=>h.pd g' (BE hm) hg') (fun g' hg' e=>A6 h.drops h.blk (by decide) (e▸hg'))
 ·exact J7 h.swaps hk (F7 h.swaps (AJ h.puts (by decide))) (fun g' hg' e=>A6 h.swaps h.blk (by decide) (e▸hg'))
 ·obtain⟨h1,h2,h3⟩:=h.rows i r hr
  have hi:=(gS_.1 hr).1;have hne:sg i≠b:=FY h1 h.blk (by decide);exact⟨(Below.heap_setCell _ _ _ _ (by exact hne)).trans ((hk.block _ (lt_of_block h1) (fun hm=>(h.ps i hi).1 (BE hm))).trans h1),h2,h3⟩
 ·have:g'=g:=by simpa[Value.ownBlock] using hg'.symm
  rw[this];exact hgd
 ·exact hgs i hi (by simpa[Value.ownBlock] using e)
theorem EM.addDrop  (h:EM w B b T pu dr sw vR vP vD vS sg) (hk:A1 w w1 vD.ownBlock.toList) (hg:vD.ownBlock=some g\/w.heap.size<=g)
  (hown:w1.ownsRow B 3 1 (ae g (dr.length+1) cap) (dr.length+1) (IK dr++ [ab (x:Int)])):
  EM (w1.setCell (af b 2) (ae g (dr.length+1) cap)) B b T pu (dr++ [x]) sw vR vP (ae g (dr.length+1) cap) vS sg:=by
 have hb1:=(hk.block b (lt_of_block h.blk) (fun hm=>A6 h.drops h.blk (by decide) (BE hm))).trans h.blk;have hgd:vP.ownBlock≠some g:=fun e=>by
  rcases hg with hg |hg
  ·exact h.pd g e hg
  ·have:=CK h.puts e;omega
 have hgs:∀i,i<sw.length->g≠sg i:=fun i hi e=>by
  obtain⟨r,hr⟩:∃r,sw[i]?=some r:=⟨_,gE hi⟩;have h1:=lt_of_block (h.rows i r hr).1
  rcases hg with hg |hg
  ·exact(h.ps i hi).2 (by rw[hg,e])
  ·omega
 refine⟨A5 hb1 _,h.hb,?_,?_,?_,fun i r hr=>?_,fun g' hg'=>?_,fun i hi=>⟨(h.ps i hi).1,fun e=>?_⟩,h.inj⟩
 ·exact J7 h.puts hk (fun g' hg' hm=>h.pd g' hg' (BE hm)) (fun g' hg' e=>A6 h.puts h.blk (by decide) (e▸hg'))
 ·have e:IK (dr++ [x])=IK dr++ [ab (x:Int)]:=by simp[IK]
  rw[e,lA];exact C2 hown hb1 (by decide)
 ·exact J7 h.swaps hk (F7 h.swaps (AJ h.drops (by decide))) (fun g' hg' e=>A6 h.swaps h.blk (by decide) (e▸hg'))
 ·obtain⟨h1,h2,h3⟩:=h.rows i r hr
  have hi:=(gS_.1 hr).1;have hne:sg i≠b:=FY h1 h.blk (by decide);exact⟨(Below.heap_setCell _ _ _ _ (by exact hne)).trans ((hk.block _ (lt_of_block h1) (fun hm=>(h.ps i hi).2 (BE hm))).trans h1),h2,h3⟩
 ·intro e
  have:g=g':=by simpa[Value.ownBlock] using e
  rw[this]at hgd;exact hgd hg'
 ·exact hgs i hi (by simpa[Value.ownBlock] using e)
theorem EM.addSwap  (h:EM w B b T pu dr sw vR vP vD vS sg) (hBw:B<=w.heap.size) (hl:sw.length=pu.length - 1) {w2:World}
  (hz:w1.heap[w.heap.size]?=some (.cells (IK (List.replicate T 0)).toArray 3 (0,0))) (hw1:A1 w w1 []) (hk:A1 w1 w2 vS.ownBlock.toList)
  (hown:w2.ownsRow B 22 1 (ae g (sw.length+1) cap) (sw.length+1) (((List.range sw.length).map fun i=>Value.slice (some ⟨sg i,0,none⟩) T T)++ [ae w.heap.size T T])):
  EM (w2.setCell (af b 3) (ae g (sw.length+1) cap)) B b T pu dr (sw++ [List.replicate T 0]) vR vP vD (ae g (sw.length+1) cap) (fun i=>if i=sw.length then w.heap.size else sg i):=by
 have h':=h.keeps hw1 (GU _ _) (GU _ _) (GU _ _);have hb1:=(hk.block b (lt_of_block h'.blk) (fun hm=>A6 h'.swaps h'.blk (by decide) (BE hm))).trans h'.blk;have hold:∀i,i<sw.length->sg i<w.heap.size:=fun i hi=>by
  obtain⟨r,hr⟩:∃r,sw[i]?=some r:=⟨_,gE hi⟩;exact lt_of_block (h.rows i r hr).1
 have hrow:∀(q:Nat) (c:Array Value),w1.heap[q]?=some (Obj.cells c 3 (0,0))->(w2.setCell (af b 3) (ae g (sw.length+1) cap)).heap[q]?=some (Obj.cells c 3 (0,0)):=fun q c hq=>by
  have hne:q≠b:=FY hq h'.blk (by decide);exact(Below.heap_setCell _ _ _ _ (by exact hne)).trans ((hk.block _ (lt_of_block hq) (AJ h'.swaps (by decide) q c hq)).trans hq)
 refine⟨A5 hb1 _,h.hb,?_,?_,?_,fun i r hr=>?_,h.pd,fun i hi=>?_,fun i j hi hj e=>?_⟩
 ·exact J7 h'.puts hk (F7 h'.puts (AJ h'.swaps (by decide))) (fun g' hg' e=>A6 h'.puts h'.blk (by decide) (e▸hg'))
 ·exact J7 h'.drops hk (F7 h'.drops (AJ h'.swaps (by decide))) (fun g' hg' e=>A6 h'.drops h'.blk (by decide) (e▸hg'))
 ·have e:((List.range (sw++ [List.replicate T 0]).length).map fun i=>Value.slice (some ⟨if i=sw.length then w.heap.size else sg i,0,none⟩) T T)=((List.range sw.length).map fun i=>Value.slice (some ⟨sg i,0,none⟩) T T)++ [ae w.heap.size T T]:=by
   rw[lA,List.length_singleton,List.range_succ,List.map_append]
   congr 1
   ·apply List.map_congr_left
    intro i hi;rw[if_neg (by have:=List.mem_range.1 hi;omega)]
   ·simp
  rw[e,lA];exact C2 hown hb1 (by decide)
 ·by_cases hi:i<sw.length
  ·rw[aL hi]at hr
   obtain⟨h1,h2,h3⟩:=h'.rows i r hr;simp only[if_neg (show ¬i=sw.length by omega)];exact⟨hrow _ _ h1,h2,h3⟩
  ·rw[aR_ (by omega)]at hr
   obtain⟨hl2,e⟩:=gS_.1 hr;simp only[List.length_singleton]at hl2;have hi':i=sw.length:=by omega
   subst hi';simp only[Nat.sub_self,List.getElem_singleton]at e;subst e;simp only[if_pos];exact⟨hrow _ _ hz,hBw,by simp⟩
 ·rw[lA,List.length_singleton]at hi
  by_cases hi':i=sw.length
  ·subst hi'
   simp only[if_pos];exact⟨fun e=>by have:=CK h.puts e;omega,fun e=>by have:=CK h.drops e;omega⟩
  ·simp only[if_neg hi']
   exact h.ps i (by omega)
 ·rw[lA,List.length_singleton]at hi hj
  by_cases hi':i=sw.length
  ·by_cases hj':j=sw.length
   ·omega
   ·simp only[if_pos hi',if_neg hj']at e
    have:=hold j (by omega);omega
  ·by_cases hj':j=sw.length
   ·simp only[if_neg hi',if_pos hj']at e
    have:=hold i (by omega);omega
   ·simp only[if_neg hi',if_neg hj']at e
    exact h.inj i j (by omega) (by omega) e
theorem EM.putSwap {i:Nat}{r:List Nat} (h:EM w B b T pu dr sw vR vP vD vS sg) (hr:sw[i]?=some r):
  EM (w.setCell ⟨sg i,j,none⟩ (ab (x:Int))) B b T pu dr (sw.set i (r.set j x)) vR vP vD vS sg:=by
 obtain⟨h1,h2,h3⟩:=h.rows i r hr;have hi:=(gS_.1 hr).1;have hne:sg i≠b:=FY h1 h.blk (by decide);have hs:(sw.set i (r.set j x)).length=sw.length:=List.length_set ..;refine⟨(Below.heap_setCell _ _ _ _ (by exact fun e=>hne e.symm)).trans h.blk,h.hb,?_,?_,?_,fun i' r' hr'=>?_,h.pd,fun i' hi'=>h.ps i' (by omega),fun a c ha hc=>h.inj a c (by omega) (by omega)⟩
 ·exact ownsRow_setCell_other h.puts (h.ps i hi).1 _
 ·exact ownsRow_setCell_other h.drops (h.ps i hi).2 _
 ·rw[hs];exact C2 h.swaps h1 (by decide)
 ·by_cases e:i'=i
  ·subst e
   rw[List.getElem?_set_self hi]at hr';injection hr' with hr'
   subst hr';refine⟨?_,h2,by rw[List.length_set];exact h3⟩;rw[A5 h1]
   congr 2
   apply Array.ext';simp[IK,List.map_set]
  ·rw[List.getElem?_set_ne (fun e2=>e e2.symm)]at hr'
   obtain⟨k1,k2,k3⟩:=h.rows i' r' hr';have hi2:=(gS_.1 hr').1;exact⟨(Below.heap_setCell _ _ _ _ (by exact fun e2=>e (h.inj _ _ hi2 hi e2))).trans k1,k2,k3⟩
end
end
def wds (r:List Pt):List Value:=r.map fun p=>Value.string (F6 p)
structure RsV (w:World) (B:Nat) (v:Value) (rs:List (List Pt)) (gk ck:Nat->Nat):Prop where
 row:w.ownsRow B 30 1 v rs.length ((List.range rs.length).map fun k=>Value.slice (some ⟨gk k,0,none⟩) ((rs.getD k []).length) (ck k))
 each:∀(k:Nat) r,rs[k]?=some r->w.ownsRow B 9 1 (.slice (some ⟨gk k,0,none⟩) r.length (ck k)) r.length (wds r)
theorem RsV.keeps  (h:RsV w B v rs gk ck) (hk:A1 w w1 S) (h1:Off w S 30) (h2:∀k,k<rs.length->gk k∉S):RsV w1 B v rs gk ck:=
 ⟨A8 h.row hk (F7 h.row h1),fun k r hr=>A8 (h.each k r hr) hk (fun g hg hm=>by
  have:g=gk k:=by simpa[Value.ownBlock] using hg.symm
  exact h2 k (gS_.1 hr).1 (this▸hm))⟩
theorem RsV.setOther {gb:Nat}{u:Value}{cs:Array Value}{t:Nat}{fr:Nat × Nat} (h:RsV w B v rs gk ck) (hb:w.heap[gb]?=some (.cells cs t fr)) (h1:30≠t) (h2:9≠t):RsV (w.setCell (af gb j) u) B v rs gk ck:=
 ⟨C2 h.row hb h1,fun k r hr=>C2 (h.each k r hr) hb h2⟩
theorem RsV.lt  (h:RsV w B v rs gk ck)  (hk:k<rs.length):B<=gk k/\gk k<w.heap.size:=by
 obtain⟨r,hr⟩:∃r,rs[k]?=some r:=⟨_,gE hk⟩;exact(h.each k r hr).lt (gk k) rfl
theorem VQ {α:Type} (n:Nat) (f f':Nat->α) (h:∀i,i<n->f' i=f i):(List.range (n+1)).map f'=(List.range n).map f++ [f' n]:=by
 rw[List.range_succ,List.map_append]
 congr 1
 exact List.map_congr_left fun i hi=>h i (List.mem_range.1 hi)
theorem RsV.push {c g':Nat}{r:List Pt} (h:RsV w B v rs gk ck) (hr:w.ownsRow B 9 1 (ae g r.length c) r.length (wds r)) (hk:A1 w w1 v.ownBlock.toList)
  (hown:w1.ownsRow B 30 1 (ae g' (rs.length+1) cap) (rs.length+1) (((List.range rs.length).map fun k=>Value.slice (some ⟨gk k,0,none⟩) ((rs.getD k []).length) (ck k))++ [ae g r.length c])):
  RsV w1 B (ae g' (rs.length+1) cap) (rs++ [r]) (fun k=>if k=rs.length then g else gk k) (fun k=>if k=rs.length then c else ck k):=by
 have hstr:∀{q:Value}{n:Nat}{xs:List Value},w.ownsRow B 9 1 q n xs->w1.ownsRow B 9 1 q n xs:=fun hq=>A8 hq hk (F7 hq (AJ h.row (by decide)))
 refine⟨?_,fun k q hq=>?_⟩
 ·rw[lA,List.length_singleton]
  rw[VQ rs.length (fun k=>Value.slice (some ⟨gk k,0,none⟩) ((rs.getD k []).length) (ck k))]
  ·simp only[if_pos,gD_,List.getElem?_concat_length,Option.getD_some]
   simp only[gD_]at hown;exact hown
  ·intro i hi
   simp only[if_neg (show ¬i=rs.length by omega),gD_,aL hi]
 ·by_cases hi:k<rs.length
  ·rw[aL hi]at hq
   simp only[if_neg (show ¬k=rs.length by omega)];exact hstr (h.each k q hq)
  ·rw[aR_ (by omega)]at hq
   obtain⟨hl,e⟩:=gS_.1 hq;simp only[List.length_singleton]at hl;have hk':k=rs.length:=by omega
   subst hk';simp only[Nat.sub_self,List.getElem_singleton]at e;subst e;simp only[if_pos];exact hstr hr
structure NsV (w:World) (B:Nat) (v:Value) (L:List (List (List Pt))) (gn cn:Nat->Nat) (gr cr:Nat->Nat->Nat):Prop where
 row:w.ownsRow B 34 1 v L.length ((List.range L.length).map fun n=>Value.slice (some ⟨gn n,0,none⟩) ((L.getD n []).length) (cn n))
 each:∀(n:Nat) rs,L[n]?=some rs->RsV w B (.slice (some ⟨gn n,0,none⟩) rs.length (cn n)) rs (gr n) (cr n)
 inj:∀(n k n' k':Nat) rs rs',L[n]?=some rs->k<rs.length->L[n']?=some rs'->k'<rs'.length->gr n k=gr n' k'->n=n'/\k=k'
theorem NsV.keeps  (h:NsV w B v L gn cn gr cr) (hk:A1 w w1 S) (h0:Off w S 34) (h1:∀n,n<L.length->gn n∉S) (h2:∀n rs k,L[n]?=some rs->k<rs.length->gr n k∉S):NsV w1 B v L gn cn gr cr where
 row:=A8 h.row hk (F7 h.row h0)
 each:=fun n rs hn=>⟨A8 (h.each n rs hn).row hk (fun g hg hm=>by
   have:g=gn n:=by simpa[Value.ownBlock] using hg.symm
   exact h1 n (gS_.1 hn).1 (this▸hm)),
  fun k r hr=>A8 ((h.each n rs hn).each k r hr) hk (fun g hg hm=>by
   have:g=gr n k:=by simpa[Value.ownBlock] using hg.symm
   exact h2 n rs k hn (gS_.1 hr).1 (this▸hm))⟩
 inj:=h.inj
theorem LB {B' sz:Nat} (h:w.ownsRow B e sz v n xs) (hB:B'<=B):w.ownsRow B' e sz v n xs:=by
 obtain⟨h1,h2⟩:=h;refine⟨h1,?_⟩
 rcases h2 with h2 | ⟨g,cap,cur,hv,hg,r⟩
 ·exact .inl h2
 ·exact .inr ⟨g,cap,cur,hv,lT_ hB hg,r⟩
theorem RsV.base {B':Nat} (h:RsV w B v rs gk ck) (hB:B'<=B):RsV w B' v rs gk ck:=
 ⟨LB h.row hB,fun k r hr=>LB (h.each k r hr) hB⟩
theorem RsV.kind  (h:RsV w B v rs gk ck)  (hk:k<rs.length):∃c,w.heap[gk k]?=some (.cells c 9 (0,0)):=by
 obtain⟨r,hr⟩:∃r,rs[k]?=some r:=⟨_,gE hk⟩;exact BJ (h.each k r hr) rfl
theorem NsV.push {c g':Nat} (h:NsV w B v L gn cn gr cr) (hr:RsV w B (ae g rs.length c) rs gk ck)
  (hinj:∀i j,i<rs.length->j<rs.length->gk i=gk j->i=j) (hold:∀(n:Nat) rs' (k j:Nat),L[n]?=some rs'->k<rs'.length->j<rs.length->gr n k≠gk j) (hk:A1 w w1 v.ownBlock.toList)
  (hown:w1.ownsRow B 34 1 (ae g' (L.length+1) cap) (L.length+1) (((List.range L.length).map fun n=>Value.slice (some ⟨gn n,0,none⟩) ((L.getD n []).length) (cn n))++ [ae g rs.length c])):
  NsV w1 B (ae g' (L.length+1) cap) (L++ [rs]) (fun n=>if n=L.length then g else gn n) (fun n=>if n=L.length then c else cn n) (fun n k=>if n=L.length then gk k else gr n k) (fun n k=>if n=L.length then ck k else cr n k):=by
 have hrs:∀{q:Value}{qs:List (List Pt)}{fk fc:Nat->Nat},RsV w B q qs fk fc->RsV w1 B q qs fk fc:=fun hq=>hq.keeps hk (AJ h.row (by decide)) (fun k hkl hm=>by
  obtain⟨cc,hc⟩:=hq.kind hkl;obtain⟨dd,hd⟩:=BJ h.row (BE hm);exact FY hc hd (by decide) rfl)
 refine⟨?_,fun n qs hq=>?_,fun n k n' k' qs qs' h1 h2 h3 h4 he=>?_⟩
 ·rw[lA,List.length_singleton]
  rw[VQ L.length (fun n=>Value.slice (some ⟨gn n,0,none⟩) ((L.getD n []).length) (cn n))]
  ·simp only[if_pos,gD_,List.getElem?_concat_length,Option.getD_some]
   simp only[gD_]at hown;exact hown
  ·intro i hi
   simp only[if_neg (show ¬i=L.length by omega),gD_,aL hi]
 ·by_cases hi:n<L.length
  ·rw[aL hi]at hq
   simp only[if_neg (show ¬n=L.length by omega)];exact hrs (h.each n qs hq)
  ·rw[aR_ (by omega)]at hq
   obtain⟨hl,e⟩:=gS_.1 hq;simp only[List.length_singleton]at hl;have hn:n=L.length:=by omega
   subst hn;simp only[Nat.sub_self,List.getElem_singleton]at e;subst e;simp only[if_pos];exact hrs hr
 ·have old:∀{m:Nat}{ps:List (List Pt)},(L++ [rs])[m]?=some ps->(m<L.length/\L[m]?=some ps)\/(m=L.length/\ps=rs):=fun {m ps} hm=>by
   by_cases hi:m<L.length
   ·rw[aL hi]at hm;exact .inl ⟨hi,hm⟩
   ·rw[aR_ (by omega)]at hm
    obtain⟨hl,e⟩:=gS_.1 hm;simp only[List.length_singleton]at hl;have hm':m=L.length:=by omega
    subst hm';simp only[Nat.sub_self,List.getElem_singleton]at e;exact .inr ⟨rfl,e.symm⟩
  rcases old h1 with⟨a1,a2⟩ | ⟨rfl,rfl⟩ <;> rcases old h3 with⟨b1,b2⟩ | ⟨rfl,rfl⟩
  ·simp only[if_neg (show ¬n=L.length by omega),if_neg (show ¬n'=L.length by omega)]at he
   exact h.inj n k n' k' qs qs' a2 h2 b2 h4 he
  ·simp only[if_neg (show ¬n=L.length by omega),if_pos]at he
   exact absurd he (hold n qs k k' a2 h2 h4)
  ·simp only[if_neg (show ¬n'=L.length by omega),if_pos]at he
   exact absurd he.symm (hold n' qs' k' k b2 h4 h2)
  ·simp only[if_pos]at he
   exact⟨rfl,hinj k k' h2 h4 he⟩
theorem NsV.setOther {gb:Nat}{u:Value}{cs:Array Value}{fr:Nat × Nat} (h:NsV w B v L gn cn gr cr) (hb:w.heap[gb]?=some (.cells cs 46 fr)):NsV (w.setCell (af gb j) u) B v L gn cn gr cr:=
 ⟨C2 h.row hb (by decide),fun n rs hn=>(h.each n rs hn).setOther hb (by decide) (by decide),h.inj⟩
theorem EM.setR  (h:EM w B b T pu dr sw vR vP vD vS sg) (hrow:w.ownsRow B 34 1 vR n xs) (hk:A1 w w1 vR.ownBlock.toList) (u:Value):EM (w1.setCell (af b 0) u) B b T pu dr sw u vP vD vS sg:=by
 have h':=h.keeps hk (AJ hrow (by decide)) (AJ hrow (by decide)) (AJ hrow (by decide));refine⟨A5 h'.blk _,h'.hb,C2 h'.puts h'.blk (by decide),C2 h'.drops h'.blk (by decide),C2 h'.swaps h'.blk (by decide),fun i r hr=>?_,h'.pd,h'.ps,h'.inj⟩;obtain⟨h1,h2,h3⟩:=h'.rows i r hr;exact⟨(Below.heap_setCell _ _ _ _ (by exact FY h1 h'.blk (by decide))).trans h1,h2,h3⟩
theorem L8  (h:w.ownsRow B e 1 v n xs) (hn:0<n) {P:Nat->Value->Prop} (hP:∀j,j<n->∃x,xs[j]?=some x/\P j x):GC w w.heap.size v n P:=by
 obtain⟨g,cap,rfl,_,h2,h3⟩:=AX h hn;refine⟨g,cap,rfl,h3,h2,fun j hj=>?_⟩;obtain⟨x,hx,hp⟩:=hP j hj;exact⟨x,(h.cellAt j (by omega)).trans hx,hp⟩
theorem MQ (l:List Nat)  (h:j<l.length):(IK l)[j]?=some (ab (l.getD j 0:Nat)):=by
 unfold IK;rw[gM,gE h,gD_,gE h];rfl
theorem LI {α:Type} (f:Nat->α)  (h:j<n):((List.range n).map f)[j]?=some (f j):=by
 rw[gM,List.getElem?_range h];rfl
theorem vQ  (h:EM w B b T pu dr sw vR vP vD vS sg) (hN:NsV w B vR L gn cn gr cr)
  (hT:0<T) (hp:pu.length=T) (hd:dr.length=T) (hs:sw.length=T) (hl:0<L.length) (hr:∀rs∈L,0<rs.length) (hq:∀rs∈L,∀r∈rs,0<r.length):MkV w w.heap.size b ⟨pu,dr,sw,L⟩ where
 lt:=lt_of_block h.blk
 rules:=⟨vR,h.cells.1,L8 hN.row hl (fun n hn=>⟨_,LI _ hn,by
  obtain⟨rs,hrs⟩:∃rs,L[n]?=some rs:=⟨_,gE hn⟩;have hm:=mG hrs;have e:(L.getD n [])=rs:=by rw[gD_,hrs];rfl
  rw[e];refine⟨rs,hrs,L8 (hN.each n rs hrs).row (hr rs hm) (fun k hk=>⟨_,LI _ hk,?_⟩)⟩;obtain⟨r,hrk⟩:∃r,rs[k]?=some r:=⟨_,gE hk⟩;have e2:(rs.getD k [])=r:=by rw[gD_,hrk];rfl
  rw[e2];refine⟨r,hrk,L8 ((hN.each n rs hrs).each k r hrk) (hq rs hm r (mG hrk)) (fun p hp=>?_)⟩;obtain⟨q,hq⟩:∃q,r[p]?=some q:=⟨_,gE hp⟩;exact⟨.string (F6 q),by unfold wds;rw[gM,hq];rfl,q,hq,rfl⟩⟩)⟩
 puts:=⟨vP,h.cells.2.1,L8 h.puts (by omega) (fun j hj=>⟨_,MQ pu hj,rfl⟩)⟩
 drops:=⟨vD,h.cells.2.2.1,by
  have h1:=h.drops;rw[hd,<-hp]at h1;exact L8 h1 (by show 0<pu.length;omega) (fun j hj=>⟨_,MQ dr (by rw[hd,<-hp];exact hj),rfl⟩)⟩
 swaps:=⟨vS,h.cells.2.2.2,by
  have h1:=h.swaps;rw[hs]at h1;have h2:∀i,i<T->GC w w.heap.size (.slice (some ⟨sg i,0,none⟩) T T) T fun j y=>y=ab (D0 ⟨pu,dr,sw,L⟩ i j:Nat):=fun i hi=>by
   obtain⟨r,hri⟩:∃r,sw[i]?=some r:=⟨_,gE (by omega)⟩;obtain⟨k1,k2,k3⟩:=h.rows i r hri;refine⟨sg i,T,rfl,lR_ _,lt_of_block k1,fun j hj=>⟨_,(A0 k1).trans ?_,rfl⟩⟩;rw[List.getElem?_toArray,MQ r (by omega)]
   congr 3
   unfold D0;simp only[gD_,hri,Option.getD_some]
  show GC w w.heap.size vS pu.length _;rw[hp];exact L8 h1 hT (fun i hi=>⟨_,LI _ hi,h2 i hi⟩)⟩
def ZU (w:World) (L:List (List (List Pt))) (gr:Nat->Nat->Nat) (role:Nat->Option (Nat × Nat)):Prop:=
 (∀(n k:Nat) rs r,L[n]?=some rs->rs[k]?=some r->role (gr n k)=some (n,k))/\∀(g t:Nat) (c:Array Value) (fr:Nat × Nat),w.heap[g]?=some (.cells c t fr)->t≠9->role g=none
theorem uB  (h:NsV w B v L gn cn gr cr):∃role,ZU w L gr role:=by
 classical
 refine⟨fun g=>if hx:∃x:Nat × Nat,∃rs r,L[x.1]?=some rs/\rs[x.2]?=some r/\gr x.1 x.2=g then some hx.choose else none,fun n k rs r hn hk=>?_,fun g t c fr hg ht=>?_⟩
 ·have hx:∃x:Nat × Nat,∃rs r,L[x.1]?=some rs/\rs[x.2]?=some r/\gr x.1 x.2=gr n k:=⟨(n,k),rs,r,hn,hk,rfl⟩
  show(if hx:∃x:Nat × Nat,∃rs r,L[x.1]?=some rs/\rs[x.2]?=some r/\gr x.1 x.2=gr n k then some hx.choose else none)=_;rw[dif_pos hx];obtain⟨rs',r',h1,h2,h3⟩:=hx.choose_spec;obtain⟨e1,e2⟩:=h.inj _ _ _ _ rs' rs h1 (gS_.1 h2).1 hn (gS_.1 hk).1 h3
  congr 1
  exact Prod.ext e1 e2
 ·show(if hx:∃x:Nat × Nat,∃rs r,L[x.1]?=some rs/\rs[x.2]?=some r/\gr x.1 x.2=g then some hx.choose else none)=_
  rw[dif_neg];rintro⟨x,rs,r,h1,h2,rfl⟩;obtain⟨d,hd⟩:=(h.each x.1 rs h1).kind (gS_.1 h2).1;exact FY hg hd ht rfl
def VC (L:List (List (List Pt))) (n k p:Nat):Pt:=((L.getD n []).getD k []).getD p (.tok 0)
theorem YQ {p:Nat}{r:List Pt}{a:Pt} (h1:L[n]?=some rs) (h2:rs[k]?=some r) (h3:r[p]?=some a):VC L n k p=a:=by
 unfold VC;simp only[gD_,h1,h2,h3,Option.getD_some]
theorem dS (n:Nat) (L:List (List (List Pt))):GW n L 0 0 0 (VC L):=
 ⟨fun n' rs k' r p' a h1 h2 h3=>⟨fun hd=>by unfold LD at hd;omega,fun _=>YQ h1 h2 h3⟩⟩
theorem vL  (h:EM w B b T pu dr sw vR vP vD vS sg) (hN:NsV w B vR L gn cn gr cr)
  (hl:0<L.length) (hr:∀rs∈L,0<rs.length) (hq:∀rs∈L,∀r∈rs,0<r.length) {role:Nat->Option (Nat × Nat)} (hro:ZU w L gr role):∃gR cR,ShC w b L role gR cR gn cn gr cr (VC L):=by
 obtain⟨gR,cR,rfl,_,hgl,hcR⟩:=AX hN.row hl;obtain⟨cc,hcc⟩:=BJ hN.row (g:=gR) rfl;have hname:∀{n:Nat}{rs:List (List Pt)},L[n]?=some rs->∃c,w.heap[gn n]?=some (.cells c 30 (0,0)):=fun hn=>BJ (hN.each _ _ hn).row rfl
 have hcap:∀{e n g c:Nat}{xs:List Value},w.ownsRow B e 1 (ae g n c) n xs->0<n->n<=c:=fun h0 hn=>by
  obtain⟨g',c',e,_,_,h5⟩:=AX h0 hn;injection e with _ _ e3
  omega
 refine⟨gR,cR,hro.2 _ _ _ _ h.blk (by decide),hro.2 _ _ _ _ hcc (by decide),fun n hn=>?_,fun n rs k r h1 h2=>hro.1 n k rs r h1 h2,h.cells.1,hcR,fun n rs hn=>?_,fun n rs k r hn hk=>?_,fun n rs k r p a hn hk hp=>?_⟩
 ·obtain⟨rs,hrs⟩:∃rs,L[n]?=some rs:=⟨_,gE hn⟩
  obtain⟨c,hc⟩:=hname hrs;exact hro.2 _ _ _ _ hc (by decide)
 ·have hnl:=(gS_.1 hn).1
  have e:(L.getD n [])=rs:=by rw[gD_,hn];rfl
  refine⟨(hN.row.cellAt n (by omega)).trans ?_,hcap (hN.each n rs hn).row (hr rs (mG hn))⟩;rw[LI _ hnl,e]
 ·have hkl:=(gS_.1 hk).1
  have e:(rs.getD k [])=r:=by rw[gD_,hk];rfl
  refine⟨((hN.each n rs hn).row.cellAt k (by omega)).trans ?_,hcap ((hN.each n rs hn).each k r hk) (hq rs (mG hn) r (mG hk))⟩;rw[LI _ hkl,e]
 ·have hpl:=(gS_.1 hp).1
  refine⟨(((hN.each n rs hn).each k r hk).cellAt p (by omega)).trans ?_,((hN.each n rs hn).each k r hk).frozenAt p⟩;unfold wds;rw[gM,hp,YQ hn hk hp];rfl
theorem QM {w':World}{role:Nat->Option (Nat × Nat)} (h:w.ownsRow B e 1 v n xs) (hn:0<n) (hrole:∀g c,w.heap[g]?=some (.cells c e (0,0))->role g=none) (hre:NZ role w w') (hsz:w.heap.size<=w'.heap.size) {P:Nat->Value->Prop} (hP:∀j,j<n->∃x,xs[j]?=some x/\P j x):GC w' w'.heap.size v n P:=by
 obtain⟨g,cap,rfl,_,h2,h3⟩:=AX h hn;obtain⟨c,hc⟩:=BJ h (g:=g) rfl;refine⟨g,cap,rfl,h3,by omega,fun j hj=>?_⟩;obtain⟨x,hx,hp⟩:=hP j hj;exact⟨x,(hre g j (hrole g c hc)).trans ((h.cellAt j (by omega)).trans hx),hp⟩
theorem sY {w':World} (h:EM w B b T pu dr sw vR vP vD vS sg)
  (hT:0<T) (hp:pu.length=T) (hd:dr.length=T) (hs:sw.length=T) (hl:0<L.length) (hr:∀rs∈L,0<rs.length) (hq:∀rs∈L,∀r∈rs,0<r.length)
  {role:Nat->Option (Nat × Nat)} (hro:ZU w L gr role) {gR cR:Nat}{c:Nat->Nat->Nat->Pt} (hS:ShC w' b L role gR cR gn cn gr cr c) (hC:GW L.length L L.length 0 0 c) (hre:NZ role w w') (hsz:w.heap.size<=w'.heap.size):MkV w' w'.heap.size b (Mk.cut ⟨pu,dr,sw,L⟩):=by
 have hcl:(IW L.length L).length=L.length:=by unfold IW;rw[lM]
 have hrole:∀{e:Nat},e≠9->∀g c,w.heap[g]?=some (.cells c e (0,0))->role g=none:=fun he g c hg=>hro.2 _ _ _ _ hg he
 have hcell:∀(j:Nat),w'.cell? (af b j)=w.cell? (af b j):=fun j=>hre b j (hro.2 _ _ _ _ h.blk (by decide))
 refine⟨by have:=lt_of_block h.blk;omega,⟨_,hS.c0,?_⟩,⟨vP,(hcell 1).trans h.cells.2.1,?_⟩,⟨vD,(hcell 2).trans h.cells.2.2.1,?_⟩,⟨vS,(hcell 3).trans h.cells.2.2.2,?_⟩⟩
 ·show GC w' w'.heap.size (ae gR L.length cR) (IW L.length L).length _
  rw[hcl];obtain⟨rs0,hrs0⟩:∃rs,L[0]?=some rs:=⟨_,gE hl⟩;refine⟨gR,cR,rfl,hS.lR,World.block_lt_of_cell? _ _ (hS.names 0 rs0 hrs0).1,fun n hn=>?_⟩;obtain⟨rs,hrs⟩:∃rs,L[n]?=some rs:=⟨_,gE hn⟩;have hm:=mG hrs;obtain⟨h1,h2⟩:=hS.names n rs hrs;refine⟨_,h1,rs.map (fun r=>r.map (O1 L.length)),by show(IW L.length L)[n]?=_;unfold IW;rw[gM,hrs];rfl,?_⟩;rw[lM];obtain⟨r0,hr0⟩:∃r,rs[0]?=some r:=⟨_,gE (hr rs hm)⟩;refine⟨gn n,cn n,rfl,h2,World.block_lt_of_cell? _ _ (hS.rules n rs 0 r0 hrs hr0).1,fun k hk=>?_⟩;obtain⟨r,hrk⟩:∃r,rs[k]?=some r:=⟨_,gE hk⟩;obtain⟨h3,h4⟩:=hS.rules n rs k r hrs hrk;refine⟨_,h3,r.map (O1 L.length),by rw[gM,hrk];rfl,?_⟩;rw[lM];have hq0:=hq rs hm r (mG hrk);obtain⟨a0,ha0⟩:∃a,r[0]?=some a:=⟨_,gE hq0⟩;refine⟨gr n k,cr n k,rfl,h4,World.block_lt_of_cell? _ _ (hS.parts n rs k r 0 a0 hrs hrk ha0).1,fun p hp=>?_⟩;obtain⟨a,ha⟩:∃a,r[p]?=some a:=⟨_,gE hp⟩;refine⟨_,(hS.parts n rs k r p a hrs hrk ha).1,O1 L.length a,by rw[gM,ha];rfl,?_⟩
  rw[(hC.holds n rs k r p a hrs hrk ha).1 (by unfold LD;omega)]
 ·exact QM h.puts (by show 0<pu.length;omega) (hrole (by decide)) hre hsz (fun j hj=>⟨_,MQ pu hj,rfl⟩)
 ·have h1:=h.drops
  rw[hd,<-hp]at h1;exact QM h1 (by omega) (hrole (by decide)) hre hsz (fun j hj=>⟨_,MQ dr (by rw[hd,<-hp];exact hj),rfl⟩)
 ·have h1:=h.swaps
  rw[hs]at h1;show GC w' w'.heap.size vS pu.length _;rw[hp];refine QM h1 hT (hrole (by decide)) hre hsz (fun i hi=>⟨_,LI _ hi,?_⟩);obtain⟨r,hri⟩:∃r,sw[i]?=some r:=⟨_,gE (by omega)⟩;obtain⟨k1,k2,k3⟩:=h.rows i r hri;have e:(Mk.cut ⟨pu,dr,sw,L⟩).puts.length=T:=hp;rw[e];refine⟨sg i,T,rfl,lR_ _,by have:=lt_of_block k1;omega,fun j hj=>⟨_,(hre (sg i) j (hro.2 _ _ _ _ k1 (by decide))).trans ((A0 k1).trans ?_),rfl⟩⟩;rw[List.getElem?_toArray,MQ r (by omega)]
  congr 3
  unfold D0;simp only[Mk.cut,gD_,hri,Option.getD_some]
section
attribute [local go_sem] Oper.semAt_some
abbrev RI (N:NG) (Wb:World) (n₀:Nat):={x:(Nat × List Pt) × Value // x.1∈N.rules/\C0 Wb n₀ x.2 x.1.2}
def WB {N:NG}{Wb:World}{n₀:Nat} (x:RI N Wb n₀):Array Value:= #[ab (x.1.1.1:Int),x.1.2]
def IB (pg:List Nm) (k:Nat):List (Nat × List Pt):=(pg.zipIdx.take k).flatMap fun x=>x.1.2.map fun ps=>(x.2,ps)
theorem bU {pg:List Nm}{nm:Nm} (h:pg[k]?=some nm):IB pg (k+1)=IB pg k++nm.2.map fun ps=>(k,ps):=by
 have hk:=(gS_.1 h).1;have e:pg.zipIdx[k]?=some (nm,k):=by rw[List.getElem?_zipIdx,h];simp
 unfold IB;rw[List.take_succ_eq_append_getElem (by simpa using hk),List.flatMap_append];rw[gE (by simpa using hk)]at e;injection e with e
 rw[e];simp
theorem dW (pg:List Nm)  (h:pg.length<=k):IB pg k=pg.zipIdx.flatMap fun x=>x.1.2.map fun ps=>(x.2,ps):=by
 unfold IB;rw[List.take_of_length_le y20Z]
theorem LA (pg:List Nm) {nm:Nm} (h:pg[k]?=some nm) (r:Nat):∃rest,(pg.zipIdx.flatMap fun x=>x.1.2.map fun ps=>(x.2,ps))=(IB pg k++(nm.2.take r).map fun ps=>(k,ps))++((nm.2.drop r).map fun ps=>(k,ps))++rest:=by
 have hk:=(gS_.1 h).1;have e:pg.zipIdx[k]?=some (nm,k):=by rw[List.getElem?_zipIdx,h];simp
 obtain⟨hk2,e2⟩:=gS_.1 e;refine⟨(pg.zipIdx.drop (k+1)).flatMap fun x=>x.1.2.map fun ps=>(x.2,ps),?_⟩
 conv=>lhs;rw[<-List.take_append_drop k pg.zipIdx,List.drop_eq_getElem_cons hk2,e2]
 rw[List.flatMap_append,List.flatMap_cons];have e3:nm.2.map (fun ps=>(k,ps))=(nm.2.take r).map (fun ps=>(k,ps))++(nm.2.drop r).map (fun ps=>(k,ps)):=by rw[<-List.map_append,List.take_append_drop]
 unfold IB;simp only[e3,aA]
theorem l6 (F:Fence) (n:Nat) (hF:F.fn 76) (hro:F.round=none) (hn:1<=n) (l Bn n₀:Nat) (N:NG) (tws:List ByteArray) (pg:List Nm) (adT:Option Addr) (capT gN capN:Nat) (Wb:World)
  (hP:PGr Wb n₀ N tws pg adT capT gN capN) (J Jx:List (RI N Wb n₀)->World->Prop) (W:World) (hJ:AbidesFrom W.heap.size J) (hbW:Below n₀ Wb W) (hn₀:n₀<=Wb.heap.size)
  (hY:∀pre x W,J pre W->pre.length<N.rules.length->YieldAt F (n - 1) Tryz.prog l (WB x) W fun e W'=>
   (e=.returned (.bool true)/\J (pre++ [x]) W'/\Below n₀ W W')\/(e=.returned (.bool false)/\Jx (pre++ [x]) W'))
  (hBn:W.cell? (af Bn 1)=some (ae gN N.nN capN)) (h0:J [] W):
  CallsIn F n Tryz.prog 76 #[.func (.yield l) #[] #[],ac Bn] W fun e W'=>(∃v,e=.returned v)/\
   ((∃ys:List (RI N Wb n₀),ys.map (fun x=>x.1.1)=N.rules/\J ys W')\/(∃pre:List (RI N Wb n₀),True/\Jx pre W')):=by
 obtain⟨nN,hn1⟩:=qF (N.nN);have hnle:=hP.leN;have lN:=hP.lN;have hgN:=hP.hgN;rw[<-hn1]at hBn hnle lN;have H1:Hid (nN=N.nN):=hid hn1;have HP:Hid (PGr Wb n₀ N tws pg adT capT gN capN):=hid hP;have HJ:=hid hJ;have HY:=hid hY;have HB0:Hid (Below n₀ Wb W):=hid hbW;have HJ0:Hid (J [] W):=hid h0;clear hn1 hP hJ hY hbW h0;refine callsIn_of_wp Tryz.func76 rfl hF ?_ hro;simp only[Tryz.ntmps76,List.size_toArray,lC,List.length_nil,Nat.reduceAdd,Nat.reduceSub,Array.replicate_succ,Array.replicate_zero,List.push_toArray,List.append_toArray,List.nil_append,List.cons_append]
 gi_wp2
 gi_loopw [10] (fun p wr=>∃(i:Nat) (pre:List (RI N Wb n₀)),i<=nN/\p=ab i/\Hid (pre.map (fun x=>x.1.1)=IB pg i)/\Hid (J pre wr)/\Hid (Below n₀ Wb wr)) (fun p _=>nN - (intOf p).toNat)
 case atStart=>exact⟨0,[],Nat.zero_le _,rfl,hid rfl,HJ0,HB0⟩
 case round=>
  clear HJ0 HB0 hBn;obtain⟨i,pre,hi,rfl,hpre,hJs,hbr⟩:=hrel
  by_cases hlt:i<nN
  ·obtain⟨nm,hnm⟩:∃nm,pg[i]?=some nm:=⟨_,gE (by rw[HP.out.pgl,<-H1.out];exact hlt)⟩
   obtain⟨c0,v,c1,g,cap,hv,hg,hcap,hrs⟩:=HP.out.names i nm hnm;subst hv;have c0:=(hbr.out.cell (p:=(af gN (i*2))) hgN).trans c0;have c1:=(hbr.out.cell (p:=(af gN (i*2+1))) hgN).trans c1;obtain⟨nR,hnR⟩:=qF (nm.2.length);have HNR:Hid (nR=nm.2.length):=hid hnR;have HNm:Hid (pg[i]?=some nm):=hid hnm;have HRs:=hid hrs;have hnR60:nR<=60:=by
    obtain⟨rest,hr⟩:=LA pg hnm nR;have h1:=congrArg List.length hr;rw[<-HP.out.rules,hnR,List.take_length]at h1;have h2:=HP.out.leR;simp only[lA,lM]at h1;omega
   rw[<-hnR]at c1 hcap;have HJ1:Hid (J pre (wr.alloc (.cells #[.string nm.1,ae g nR cap] 113))):=hid (HJ.out pre wr _ none hJs.out (World.grownBy_alloc wr _ none) (fun r e=>by cases e));have HB1:Hid (Below n₀ Wb (wr.alloc (.cells #[.string nm.1,ae g nR cap] 113))):=hid (hbr.out.alloc (lT_ hn₀ hbr.out.size) _);clear hnm hnR hrs hJs hbr
   gi_wp2
   gi_loopw [18] (fun p wr=>∃(r:Nat) (pre:List (RI N Wb n₀)),r<=nR/\p=ab r/\Hid (pre.map (fun x=>x.1.1)=IB pg i++(nm.2.take r).map fun ps=>(i,ps))/\Hid (J pre wr)/\Hid (Below n₀ Wb wr)) (fun p _=>nR - (intOf p).toNat)
   case atStart=>exact⟨0,pre,Nat.zero_le _,rfl,hid (by rw[hpre.out];simp),HJ1,HB1⟩
   case round=>
    clear HJ1 HB1 c0 c1;obtain⟨r,pre,hr,rfl,hpre,hJs,hbr⟩:=hrel
    by_cases hlr:r<nR
    ·obtain⟨ps,hps⟩:∃ps,nm.2[r]?=some ps:=⟨_,gE (by rw[<-HNR.out];exact hlr)⟩
     obtain⟨p,hp1,hp2⟩:=HRs.out r ps hps;have cp:=(hbr.out.cell (p:=(af g r)) hg).trans hp1;have hmem:(i,ps)∈N.rules:=by
      rw[HP.out.rules,List.mem_flatMap];refine⟨(nm,i),?_,?_⟩
      ·have e:pg.zipIdx[i]?=some (nm,i):=by rw[List.getElem?_zipIdx,HNm.out];simp
       exact mG e
      ·exact List.mem_map.2 ⟨ps,mG hps,rfl⟩
     have hlen:pre.length<N.rules.length:=by
      obtain⟨rest,hrr⟩:=LA pg HNm.out r;have h1:=congrArg List.length hrr;have h2:=congrArg List.length hpre.out;rw[<-HP.out.rules]at h1;simp only[lA,lM,List.length_drop]at h1 h2;have h3:=HNR.out;omega
     obtain⟨x,hx⟩:∃x:RI N Wb n₀,x.1=((i,ps),p):=⟨⟨((i,ps),p),hmem,hp2⟩,rfl⟩;obtain⟨fn,tmps,assign,body,hy,hR⟩:=HY.out pre x wr hJs.out hlen;have HPre:Hid ((pre++ [x]).map (fun x=>x.1.1)=IB pg i++(nm.2.take (r+1)).map fun ps=>(i,ps)):=hid (by
      obtain⟨hr2,e⟩:=gS_.1 hps;rw[List.map_append,hpre.out,List.take_succ_eq_append_getElem hr2,e];simp[hx])
     have hy:(Instr.yield l #[ab (i:Int),p]).run Tryz.prog wr=.ok (.round l fn tmps assign body) wr:=by
      have h1:=hy;unfold WB at h1;rw[hx]at h1;exact h1
     have HR:=hid hR;clear hR hx hlen hmem hps hp1 hpre
     gi_wp2
     refine HR.out.mono ?_;rintro e W3 (⟨rfl,hJ3,hk3⟩ | ⟨rfl,hJx3⟩)
     ·have HJ3:=hid hJ3
      have HB3:=hid (hbr.out.trans hk3);clear hJ3 hk3
      gi_wp2
      go_roundw
      case rel=>exact⟨r+1,pre++ [x],by omega,by go_num,HPre,HJ3,HB3⟩
      case measure=>simp[intOf];omega
     ·gi_wp2
      refine bodyPost_ret (results_none rfl _ _ _) rfl ?_;exact⟨⟨_,rfl⟩,.inr ⟨pre++ [x],trivial,hJx3⟩⟩
    ·have HPre:Hid (pre.map (fun x=>x.1.1)=IB pg (i+1)):=hid (by
      rw[hpre.out,bU HNm.out,List.take_of_length_le (by have:=HNR.out;omega)])
     gi_wp2
     go_roundw
     case rel=>exact⟨i+1,pre,by omega,by go_num,HPre,hJs,hbr⟩
     case measure=>simp[intOf];omega
  ·have HPre:Hid (pre.map (fun x=>x.1.1)=N.rules):=hid (by
    rw[hpre.out,HP.out.rules,dW pg (by rw[HP.out.pgl];have:=H1.out;omega)])
   gi_wp2
   go_end0
   exact⟨⟨_,rfl⟩,.inl ⟨pre,HPre.out,hJs.out⟩⟩
end
end Go.Proofs.YtjjggdcnpndgjabGreatDoor
