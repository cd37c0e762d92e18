import Derived.Test.YtjjggdcnpndgjaaGreatDoorHJ10
set_option linter.unusedSimpArgs false
set_option maxHeartbeats 2000000
set_option maxRecDepth 100000
namespace Go.Proofs.YtjjggdcnpndgjaaGreatDoor
abbrev bq:=@Go.World.block_lt_of_cell?
abbrev ig:=@List.cons_append
abbrev jg:=@Array.replicate_succ
abbrev jh:=@Array.replicate_zero
abbrev jo:=@List.append_toArray
abbrev ju:=@List.push_toArray
abbrev mg:=@List.flatMap_append
abbrev om:=@List.getElem?_zipIdx
abbrev ql:=@Go.results_none
abbrev ud:=@Go.callsIn_of_wp
abbrev uj:=@List.range_succ
abbrev xm:=@Go.bodyPost_ret
open Go.RowKit Go.Shelf
variable {B T b cap e g j k n x:Nat}{L:List (List (List Pt))}{S dr pu:List Nat}{ck cn gk gn sg:Nat->Nat}{cr gr:Nat->Nat->Nat}{rs:List (List Pt)}{sw:List (List Nat)}{v vD vP vR vS:Value}{w w1:World}{xs:List Value}
section
def IL (l:List Nat):List Value:=l.map fun(x:Nat)=>ab (x:Int)
structure EU (w:World) (B b T:Nat) (pu dr:List Nat) (sw:List (List Nat)) (vR vP vD vS:Value) (sg:Nat->Nat):Prop where
 blk:w.heap[b]?=some (.cells #[vR,vP,vD,vS] 77 (0,0))
 hb:B<=b
 yP:w.ownsRow B 3 1 vP pu.length (IL pu)
 zk:w.ownsRow B 3 1 vD dr.length (IL dr)
 swaps:w.ownsRow B 45 1 vS sw.length ((List.range sw.length).map λi=>Value.slice (some ⟨sg i,0,none⟩) T T)
 rows:∀(i:Nat) r,sw[i]?=some r->w.heap[sg i]?=some (.cells (IL r).toArray 3 (0,0))/\B<=sg i/\r.length=T
 pd:∀g,vP.ownBlock=some g->vD.ownBlock≠some g
 ps:∀(i:Nat),i<sw.length->vP.ownBlock≠some (sg i)/\vD.ownBlock≠some (sg i)
 inj:∀(i j:Nat),i<sw.length->j<sw.length->sg i=sg j->i=j
section
variable {w w1:World}{B b T:Nat}{pu dr:List Nat}{sw:List (List Nat)}{vR vP vD vS:Value}{sg:Nat->Nat}
theorem EU.cells (h:EU w B b T pu dr sw vR vP vD vS sg):w.cell? (af b 0)=some vR/\w.cell? (af b 1)=some vP/\w.cell? (af b 2)=some vD/\w.cell? (af b 3)=some vS:=
 ⟨A0 h.blk,A0 h.blk,A0 h.blk,A0 h.blk⟩
theorem EU.keeps  (h:EU w B b T pu dr sw vR vP vD vS sg) (hk:A1 w w1 S) (hi:Pj w S 3) (hs:Pj w S 45) (hm:Pj w S 77):EU w1 B b T pu dr sw vR vP vD vS sg where
 blk:=(hk.block b (ak h.blk) (hm b _ h.blk)).trans h.blk
 hb:=h.hb
 yP:=A7 h.yP hk (FB h.yP hi)
 zk:=A7 h.zk hk (FB h.zk hi)
 swaps:=A7 h.swaps hk (FB h.swaps hs)
 rows:=λi r hr=>by
  obtain⟨h1,h2,h3⟩:=h.rows i r hr;exact⟨(hk.block _ (ak h1) (hi _ _ h1)).trans h1,h2,h3⟩
 pd:=h.pd
 ps:=h.ps
 inj:=h.inj
theorem EU.below (h:EU w B b T pu dr sw vR vP vD vS sg) (hb:Below w.heap.size w w1):EU w1 B b T pu dr sw vR vP vD vS sg:=
 h.keeps (A1.yX hb []) (GX _ _) (GX _ _) (GX _ _)
theorem EU.ahQ  (h:EU w B b T pu dr sw vR vP vD vS sg) (hk:A1 w w1 vP.ownBlock.toList) (hg:vP.ownBlock=some g\/w.heap.size<=g)
  (hown:w1.ownsRow B 3 1 (ae g (pu.length+1) cap) (pu.length+1) (IL pu++ [ab (x:Int)])):
  EU (w1.setCell (af b 1) (ae g (pu.length+1) cap)) B b T (pu++ [x]) dr sw vR (ae g (pu.length+1) cap) vD vS sg:=by
 have hb1:=(hk.block b (ak h.blk) (λhm=>A5 h.yP h.blk (by decide) (BE hm))).trans h.blk;have hgd:vD.ownBlock≠some g:=λe=>by
  rcases hg with hg |hg
  ·exact h.pd g hg e
  ·have:=CJ h.zk e;omega
 have Hs:∀i,i<sw.length->g≠sg i:=λi hi e=>by
  obtain⟨r,hr⟩:∃r,sw[i]?=some r:=⟨_,gE hi⟩;have h1:=ak (h.rows i r hr).1
  rcases hg with hg |hg
  ·exact(h.ps i hi).1 (by rw[hg,e])
  ·omega
 refine⟨A6 hb1 _,h.hb,?_,?_,?_,λi r hr=>?_,λg' hg'=>?_,λi hi=>⟨λe=>?_,(h.ps i hi).2⟩,h.inj⟩
 ·have e:IL (pu++ [x])=IL pu++ [ab (x:Int)]:=by simp[IL]
  rw[e,lA];exact C2 hown hb1 (by decide)
 ·exact J6 h.zk hk (λg' hg' hm=>h.pd g' (BE hm) hg') (λg' hg' e=>A5 h.zk h.blk (by decide) (e▸hg'))
 ·exact J6 h.swaps hk (FB h.swaps (AJ h.yP (by decide))) (λg' hg' e=>A5 h.swaps h.blk (by decide) (e▸hg'))
 ·obtain⟨h1,h2,h3⟩:=h.rows i r hr
  have hi:=(yS.1 hr).1;have hne:sg i≠b:=G5 h1 h.blk (by decide);exact⟨(iy _ _ _ _ (by exact hne)).trans ((hk.block _ (ak h1) (λhm=>(h.ps i hi).1 (BE hm))).trans h1),h2,h3⟩
 ·have:g'=g:=by simpa[Value.ownBlock] using hg'.symm
  rw[this];exact hgd
 ·exact Hs i hi (by simpa[Value.ownBlock] using e)
theorem EU.ahR  (h:EU w B b T pu dr sw vR vP vD vS sg) (hk:A1 w w1 vD.ownBlock.toList) (hg:vD.ownBlock=some g\/w.heap.size<=g)
  (hown:w1.ownsRow B 3 1 (ae g (dr.length+1) cap) (dr.length+1) (IL dr++ [ab (x:Int)])):
  EU (w1.setCell (af b 2) (ae g (dr.length+1) cap)) B b T pu (dr++ [x]) sw vR vP (ae g (dr.length+1) cap) vS sg:=by
 have hb1:=(hk.block b (ak h.blk) (λhm=>A5 h.zk h.blk (by decide) (BE hm))).trans h.blk;have hgd:vP.ownBlock≠some g:=λe=>by
  rcases hg with hg |hg
  ·exact h.pd g e hg
  ·have:=CJ h.yP e;omega
 have Hs:∀i,i<sw.length->g≠sg i:=λi hi e=>by
  obtain⟨r,hr⟩:∃r,sw[i]?=some r:=⟨_,gE hi⟩;have h1:=ak (h.rows i r hr).1
  rcases hg with hg |hg
  ·exact(h.ps i hi).2 (by rw[hg,e])
  ·omega
 refine⟨A6 hb1 _,h.hb,?_,?_,?_,λi r hr=>?_,λg' hg'=>?_,λi hi=>⟨(h.ps i hi).1,λe=>?_⟩,h.inj⟩
 ·exact J6 h.yP hk (λg' hg' hm=>h.pd g' hg' (BE hm)) (λg' hg' e=>A5 h.yP h.blk (by decide) (e▸hg'))
 ·have e:IL (dr++ [x])=IL dr++ [ab (x:Int)]:=by simp[IL]
  rw[e,lA];exact C2 hown hb1 (by decide)
 ·exact J6 h.swaps hk (FB h.swaps (AJ h.zk (by decide))) (λg' hg' e=>A5 h.swaps h.blk (by decide) (e▸hg'))
 ·obtain⟨h1,h2,h3⟩:=h.rows i r hr
  have hi:=(yS.1 hr).1;have hne:sg i≠b:=G5 h1 h.blk (by decide);exact⟨(iy _ _ _ _ (by exact hne)).trans ((hk.block _ (ak h1) (λhm=>(h.ps i hi).2 (BE hm))).trans h1),h2,h3⟩
 ·intro e
  have:g=g':=by simpa[Value.ownBlock] using e
  rw[this]at hgd;exact hgd hg'
 ·exact Hs i hi (by simpa[Value.ownBlock] using e)
theorem EU.ahS  (h:EU w B b T pu dr sw vR vP vD vS sg) (hBw:B<=w.heap.size) (hl:sw.length=pu.length - 1) {w2:World}
  (hz:w1.heap[w.heap.size]?=some (.cells (IL (List.replicate T 0)).toArray 3 (0,0))) (hw1:A1 w w1 []) (hk:A1 w1 w2 vS.ownBlock.toList)
  (hown:w2.ownsRow B 45 1 (ae g (sw.length+1) cap) (sw.length+1) (((List.range sw.length).map λi=>Value.slice (some ⟨sg i,0,none⟩) T T)++ [ae w.heap.size T T])):
  EU (w2.setCell (af b 3) (ae g (sw.length+1) cap)) B b T pu dr (sw++ [List.replicate T 0]) vR vP vD (ae g (sw.length+1) cap) (λi=>if i=sw.length then w.heap.size else sg i):=by
 have h':=h.keeps hw1 (GX _ _) (GX _ _) (GX _ _);have hb1:=(hk.block b (ak h'.blk) (λhm=>A5 h'.swaps h'.blk (by decide) (BE hm))).trans h'.blk;have hold:∀i,i<sw.length->sg i<w.heap.size:=λi hi=>by
  obtain⟨r,hr⟩:∃r,sw[i]?=some r:=⟨_,gE hi⟩;exact ak (h.rows i r hr).1
 have hrow:∀(q:Nat) (c:Array Value),w1.heap[q]?=some (Obj.cells c 3 (0,0))->(w2.setCell (af b 3) (ae g (sw.length+1) cap)).heap[q]?=some (Obj.cells c 3 (0,0)):=λq c hq=>by
  have hne:q≠b:=G5 hq h'.blk (by decide);exact(iy _ _ _ _ (by exact hne)).trans ((hk.block _ (ak hq) (AJ h'.swaps (by decide) q c hq)).trans hq)
 refine⟨A6 hb1 _,h.hb,?_,?_,?_,λi r hr=>?_,h.pd,λi hi=>?_,λi j hi hj e=>?_⟩
 ·exact J6 h'.yP hk (FB h'.yP (AJ h'.swaps (by decide))) (λg' hg' e=>A5 h'.yP h'.blk (by decide) (e▸hg'))
 ·exact J6 h'.zk hk (FB h'.zk (AJ h'.swaps (by decide))) (λg' hg' e=>A5 h'.zk h'.blk (by decide) (e▸hg'))
 ·have e:((List.range (sw++ [List.replicate T 0]).length).map λi=>Value.slice (some ⟨if i=sw.length then w.heap.size else sg i,0,none⟩) T T)=((List.range sw.length).map λi=>Value.slice (some ⟨sg i,0,none⟩) T T)++ [ae w.heap.size T T]:=by
   rw[lA,ey,uj,ew]
   congr 1
   ·apply lz
    intro i hi;rw[au (by have:=ir.1 hi;omega)]
   ·simp
  rw[e,lA];exact C2 hown hb1 (by decide)
 ·by_cases hi:i<sw.length
  ·rw[aL hi]at hr
   obtain⟨h1,h2,h3⟩:=h'.rows i r hr;simp only[au (show ¬i=sw.length by omega)];exact⟨hrow _ _ h1,h2,h3⟩
  ·rw[zQ (by omega)]at hr
   obtain⟨hl2,e⟩:=yS.1 hr;simp only[ey]at hl2;have hi':i=sw.length:=by omega
   subst hi';simp only[kq,oq]at e;subst e;simp only[aq];exact⟨hrow _ _ hz,hBw,by simp⟩
 ·rw[lA,ey]at hi
  by_cases hi':i=sw.length
  ·subst hi'
   simp only[aq];exact⟨λe=>by have:=CJ h.yP e;omega,λe=>by have:=CJ h.zk e;omega⟩
  ·simp only[au hi']
   exact h.ps i (by omega)
 ·rw[lA,ey]at hi hj
  by_cases hi':i=sw.length
  ·by_cases hj':j=sw.length
   ·omega
   ·simp only[aq hi',au hj']at e
    have:=hold j (by omega);omega
  ·by_cases hj':j=sw.length
   ·simp only[au hi',aq hj']at e
    have:=hold i (by omega);omega
   ·simp only[au hi',au hj']at e
    exact h.inj i j (by omega) (by omega) e
theorem EU.ahT {i:Nat}{r:List Nat} (h:EU w B b T pu dr sw vR vP vD vS sg) (hr:sw[i]?=some r):
  EU (w.setCell ⟨sg i,j,none⟩ (ab (x:Int))) B b T pu dr (sw.set i (r.set j x)) vR vP vD vS sg:=by
 obtain⟨h1,h2,h3⟩:=h.rows i r hr;have hi:=(yS.1 hr).1;have hne:sg i≠b:=G5 h1 h.blk (by decide);have hs:(sw.set i (r.set j x)).length=sw.length:=List.length_set ..;refine⟨(iy _ _ _ _ (by exact λe=>hne e.symm)).trans h.blk,h.hb,?_,?_,?_,λi' r' hr'=>?_,h.pd,λi' hi'=>h.ps i' (by omega),λa c ha hc=>h.inj a c (by omega) (by omega)⟩
 ·exact ue h.yP (h.ps i hi).1 _
 ·exact ue h.zk (h.ps i hi).2 _
 ·rw[hs];exact C2 h.swaps h1 (by decide)
 ·by_cases e:i'=i
  ·subst e
   rw[List.getElem?_set_self hi]at hr';injection hr' with hr'
   subst hr';refine⟨?_,h2,by rw[List.length_set];exact h3⟩;rw[A6 h1]
   congr 2
   apply Array.ext';simp[IL,List.map_set]
  ·rw[List.getElem?_set_ne (λe2=>e e2.symm)]at hr'
   obtain⟨k1,k2,k3⟩:=h.rows i' r' hr';have hi2:=(yS.1 hr').1;exact⟨(iy _ _ _ _ (by exact λe2=>e (h.inj _ _ hi2 hi e2))).trans k1,k2,k3⟩
end
end
def Dm (r:List Pt):List Value:=r.map λp=>Value.string (EQ p)
structure Bg (w:World) (B:Nat) (v:Value) (rs:List (List Pt)) (gk ck:Nat->Nat):Prop where
 row:w.ownsRow B 39 1 v rs.length ((List.range rs.length).map λk=>Value.slice (some ⟨gk k,0,none⟩) ((rs.getD k []).length) (ck k))
 each:∀(k:Nat) r,rs[k]?=some r->w.ownsRow B 9 1 (.slice (some ⟨gk k,0,none⟩) r.length (ck k)) r.length (Dm r)
theorem Bg.keeps  (h:Bg w B v rs gk ck) (hk:A1 w w1 S) (h1:Pj w S 39) (h2:∀k,k<rs.length->gk k∉S):Bg w1 B v rs gk ck:=
 ⟨A7 h.row hk (FB h.row h1),λk r hr=>A7 (h.each k r hr) hk (λg hg hm=>by
  have:g=gk k:=by simpa[Value.ownBlock] using hg.symm
  exact h2 k (yS.1 hr).1 (this▸hm))⟩
theorem Bg.setOther {gb:Nat}{u:Value}{cs:Array Value}{t:Nat}{fr:Nat × Nat} (h:Bg w B v rs gk ck) (hb:w.heap[gb]?=some (.cells cs t fr)) (h1:39≠t) (h2:9≠t):Bg (w.setCell (af gb j) u) B v rs gk ck:=
 ⟨C2 h.row hb h1,λk r hr=>C2 (h.each k r hr) hb h2⟩
theorem Bg.lt  (h:Bg w B v rs gk ck)  (hk:k<rs.length):B<=gk k/\gk k<w.heap.size:=by
 obtain⟨r,hr⟩:∃r,rs[k]?=some r:=⟨_,gE hk⟩;exact(h.each k r hr).lt (gk k) rfl
theorem VN {α:Type} (n:Nat) (f f':Nat->α) (h:∀i,i<n->f' i=f i):(List.range (n+1)).map f'=(List.range n).map f++ [f' n]:=by
 rw[uj,ew]
 congr 1
 exact lz λi hi=>h i (ir.1 hi)
theorem Bg.push {c g':Nat}{r:List Pt} (h:Bg w B v rs gk ck) (hr:w.ownsRow B 9 1 (ae g r.length c) r.length (Dm r)) (hk:A1 w w1 v.ownBlock.toList)
  (hown:w1.ownsRow B 39 1 (ae g' (rs.length+1) cap) (rs.length+1) (((List.range rs.length).map λk=>Value.slice (some ⟨gk k,0,none⟩) ((rs.getD k []).length) (ck k))++ [ae g r.length c])):
  Bg w1 B (ae g' (rs.length+1) cap) (rs++ [r]) (λk=>if k=rs.length then g else gk k) (λk=>if k=rs.length then c else ck k):=by
 have aaK:∀{q:Value}{n:Nat}{xs:List Value},w.ownsRow B 9 1 q n xs->w1.ownsRow B 9 1 q n xs:=λhq=>A7 hq hk (FB hq (AJ h.row (by decide)))
 refine⟨?_,λk q hq=>?_⟩
 ·rw[lA,ey]
  rw[VN rs.length (λk=>Value.slice (some ⟨gk k,0,none⟩) ((rs.getD k []).length) (ck k))]
  ·simp only[aq,zh,List.getElem?_concat_length,jm]
   simp only[zh]at hown;exact hown
  ·intro i hi
   simp only[au (show ¬i=rs.length by omega),zh,aL hi]
 ·by_cases hi:k<rs.length
  ·rw[aL hi]at hq
   simp only[au (show ¬k=rs.length by omega)];exact aaK (h.each k q hq)
  ·rw[zQ (by omega)]at hq
   obtain⟨hl,e⟩:=yS.1 hq;simp only[ey]at hl;have hk':k=rs.length:=by omega
   subst hk';simp only[kq,oq]at e;subst e;simp only[aq];exact aaK hr
structure Fw (w:World) (B:Nat) (v:Value) (L:List (List (List Pt))) (gn cn:Nat->Nat) (gr cr:Nat->Nat->Nat):Prop where
 row:w.ownsRow B 46 1 v L.length ((List.range L.length).map λn=>Value.slice (some ⟨gn n,0,none⟩) ((L.getD n []).length) (cn n))
 each:∀(n:Nat) rs,L[n]?=some rs->Bg w B (.slice (some ⟨gn n,0,none⟩) rs.length (cn n)) rs (gr n) (cr n)
 inj:∀(n k n' k':Nat) rs rs',L[n]?=some rs->k<rs.length->L[n']?=some rs'->k'<rs'.length->gr n k=gr n' k'->n=n'/\k=k'
theorem Fw.keeps  (h:Fw w B v L gn cn gr cr) (hk:A1 w w1 S) (h0:Pj w S 46) (h1:∀n,n<L.length->gn n∉S) (h2:∀n rs k,L[n]?=some rs->k<rs.length->gr n k∉S):Fw w1 B v L gn cn gr cr where
 row:=A7 h.row hk (FB h.row h0)
 each:=λn rs hn=>⟨A7 (h.each n rs hn).row hk (λg hg hm=>by
   have:g=gn n:=by simpa[Value.ownBlock] using hg.symm
   exact h1 n (yS.1 hn).1 (this▸hm)),
  λk r hr=>A7 ((h.each n rs hn).each k r hr) hk (λg hg hm=>by
   have:g=gr n k:=by simpa[Value.ownBlock] using hg.symm
   exact h2 n rs k hn (yS.1 hr).1 (this▸hm))⟩
 inj:=h.inj
theorem LB {B' sz:Nat} (h:w.ownsRow B e sz v n xs) (hB:B'<=B):w.ownsRow B' e sz v n xs:=by
 obtain⟨h1,h2⟩:=h;refine⟨h1,?_⟩
 rcases h2 with h2 | ⟨g,cap,cur,hv,hg,r⟩
 ·exact .inl h2
 ·exact .inr ⟨g,cap,cur,hv,y5 hB hg,r⟩
theorem Bg.base {B':Nat} (h:Bg w B v rs gk ck) (hB:B'<=B):Bg w B' v rs gk ck:=
 ⟨LB h.row hB,λk r hr=>LB (h.each k r hr) hB⟩
theorem Bg.kind  (h:Bg w B v rs gk ck)  (hk:k<rs.length):∃c,w.heap[gk k]?=some (.cells c 9 (0,0)):=by
 obtain⟨r,hr⟩:∃r,rs[k]?=some r:=⟨_,gE hk⟩;exact BI (h.each k r hr) rfl
theorem Fw.push {c g':Nat} (h:Fw w B v L gn cn gr cr) (hr:Bg w B (ae g rs.length c) rs gk ck)
  (hinj:∀i j,i<rs.length->j<rs.length->gk i=gk j->i=j) (hold:∀(n:Nat) rs' (k j:Nat),L[n]?=some rs'->k<rs'.length->j<rs.length->gr n k≠gk j) (hk:A1 w w1 v.ownBlock.toList)
  (hown:w1.ownsRow B 46 1 (ae g' (L.length+1) cap) (L.length+1) (((List.range L.length).map λn=>Value.slice (some ⟨gn n,0,none⟩) ((L.getD n []).length) (cn n))++ [ae g rs.length c])):
  Fw w1 B (ae g' (L.length+1) cap) (L++ [rs]) (λn=>if n=L.length then g else gn n) (λn=>if n=L.length then c else cn n) (λn k=>if n=L.length then gk k else gr n k) (λn k=>if n=L.length then ck k else cr n k):=by
 have hrs:∀{q:Value}{qs:List (List Pt)}{fk fc:Nat->Nat},Bg w B q qs fk fc->Bg w1 B q qs fk fc:=λhq=>hq.keeps hk (AJ h.row (by decide)) (λk hkl hm=>by
  obtain⟨cc,hc⟩:=hq.kind hkl;obtain⟨dd,hd⟩:=BI h.row (BE hm);exact G5 hc hd (by decide) rfl)
 refine⟨?_,λn qs hq=>?_,λn k n' k' qs qs' h1 h2 h3 h4 he=>?_⟩
 ·rw[lA,ey]
  rw[VN L.length (λn=>Value.slice (some ⟨gn n,0,none⟩) ((L.getD n []).length) (cn n))]
  ·simp only[aq,zh,List.getElem?_concat_length,jm]
   simp only[zh]at hown;exact hown
  ·intro i hi
   simp only[au (show ¬i=L.length by omega),zh,aL hi]
 ·by_cases hi:n<L.length
  ·rw[aL hi]at hq
   simp only[au (show ¬n=L.length by omega)];exact hrs (h.each n qs hq)
  ·rw[zQ (by omega)]at hq
   obtain⟨hl,e⟩:=yS.1 hq;simp only[ey]at hl;have hn:n=L.length:=by omega
   subst hn;simp only[kq,oq]at e;subst e;simp only[aq];exact hrs hr
 ·have old:∀{m:Nat}{ps:List (List Pt)},(L++ [rs])[m]?=some ps->(m<L.length/\L[m]?=some ps)\/(m=L.length/\ps=rs):=λ{m ps} hm=>by
   by_cases hi:m<L.length
   ·rw[aL hi]at hm;exact .inl ⟨hi,hm⟩
   ·rw[zQ (by omega)]at hm
    obtain⟨hl,e⟩:=yS.1 hm;simp only[ey]at hl;have hm':m=L.length:=by omega
    subst hm';simp only[kq,oq]at e;exact .inr ⟨rfl,e.symm⟩
  rcases old h1 with⟨a1,a2⟩ | ⟨rfl,rfl⟩ <;> rcases old h3 with⟨b1,b2⟩ | ⟨rfl,rfl⟩
  ·simp only[au (show ¬n=L.length by omega),au (show ¬n'=L.length by omega)]at he
   exact h.inj n k n' k' qs qs' a2 h2 b2 h4 he
  ·simp only[au (show ¬n=L.length by omega),aq]at he
   exact absurd he (hold n qs k k' a2 h2 h4)
  ·simp only[au (show ¬n'=L.length by omega),aq]at he
   exact absurd he.symm (hold n' qs' k' k b2 h4 h2)
  ·simp only[aq]at he
   exact⟨rfl,hinj k k' h2 h4 he⟩
theorem Fw.setOther {gb:Nat}{u:Value}{cs:Array Value}{fr:Nat × Nat} (h:Fw w B v L gn cn gr cr) (hb:w.heap[gb]?=some (.cells cs 77 fr)):Fw (w.setCell (af gb j) u) B v L gn cn gr cr:=
 ⟨C2 h.row hb (by decide),λn rs hn=>(h.each n rs hn).setOther hb (by decide) (by decide),h.inj⟩
theorem EU.ahU  (h:EU w B b T pu dr sw vR vP vD vS sg) (hrow:w.ownsRow B 46 1 vR n xs) (hk:A1 w w1 vR.ownBlock.toList) (u:Value):EU (w1.setCell (af b 0) u) B b T pu dr sw u vP vD vS sg:=by
 have h':=h.keeps hk (AJ hrow (by decide)) (AJ hrow (by decide)) (AJ hrow (by decide));refine⟨A6 h'.blk _,h'.hb,C2 h'.yP h'.blk (by decide),C2 h'.zk h'.blk (by decide),C2 h'.swaps h'.blk (by decide),λi r hr=>?_,h'.pd,h'.ps,h'.inj⟩;obtain⟨h1,h2,h3⟩:=h'.rows i r hr;exact⟨(iy _ _ _ _ (by exact G5 h1 h'.blk (by decide))).trans h1,h2,h3⟩
theorem LC  (h:w.ownsRow B e 1 v n xs) (hn:0<n) {P:Nat->Value->Prop} (hP:∀j,j<n->∃x,xs[j]?=some x/\P j x):GC w w.heap.size v n P:=by
 obtain⟨g,cap,rfl,_,h2,h3⟩:=AX h hn;refine⟨g,cap,rfl,h3,h2,λj hj=>?_⟩;obtain⟨x,hx,hp⟩:=hP j hj;exact⟨x,(h.cellAt j (by omega)).trans hx,hp⟩
theorem MR (l:List Nat)  (h:j<l.length):(IL l)[j]?=some (ab (l.getD j 0:Nat)):=by
 unfold IL;rw[gM,gE h,zh,gE h];rfl
theorem L6 {α:Type} (f:Nat->α)  (h:j<n):((List.range n).map f)[j]?=some (f j):=by
 rw[gM,ng h];rfl
theorem vV  (h:EU w B b T pu dr sw vR vP vD vS sg) (hN:Fw w B vR L gn cn gr cr)
  (hT:0<T) (hp:pu.length=T) (hd:dr.length=T) (hs:sw.length=T) (hl:0<L.length) (hr:∀rs∈L,0<rs.length) (hq:∀rs∈L,∀r∈rs,0<r.length):Gk w w.heap.size b ⟨pu,dr,sw,L⟩ where
 lt:=ak h.blk
 rules:=⟨vR,h.cells.1,LC hN.row hl (λn hn=>⟨_,L6 _ hn,by
  obtain⟨rs,hrs⟩:∃rs,L[n]?=some rs:=⟨_,gE hn⟩;have hm:=mG hrs;have e:(L.getD n [])=rs:=by rw[zh,hrs];rfl
  rw[e];refine⟨rs,hrs,LC (hN.each n rs hrs).row (hr rs hm) (λk hk=>⟨_,L6 _ hk,?_⟩)⟩;obtain⟨r,Ce⟩:∃r,rs[k]?=some r:=⟨_,gE hk⟩;have e2:(rs.getD k [])=r:=by rw[zh,Ce];rfl
  rw[e2];refine⟨r,Ce,LC ((hN.each n rs hrs).each k r Ce) (hq rs hm r (mG Ce)) (λp hp=>?_)⟩;obtain⟨q,hq⟩:∃q,r[p]?=some q:=⟨_,gE hp⟩;exact⟨.string (EQ q),by unfold Dm;rw[gM,hq];rfl,q,hq,rfl⟩⟩)⟩
 yP:=⟨vP,h.cells.2.1,LC h.yP (by omega) (λj hj=>⟨_,MR pu hj,rfl⟩)⟩
 zk:=⟨vD,h.cells.2.2.1,by
  have h1:=h.zk;rw[hd,<-hp]at h1;exact LC h1 (by show 0<pu.length;omega) (λj hj=>⟨_,MR dr (by rw[hd,<-hp];exact hj),rfl⟩)⟩
 swaps:=⟨vS,h.cells.2.2.2,by
  have h1:=h.swaps;rw[hs]at h1;have h2:∀i,i<T->GC w w.heap.size (.slice (some ⟨sg i,0,none⟩) T T) T λj y=>y=ab (D1 ⟨pu,dr,sw,L⟩ i j:Nat):=λi hi=>by
   obtain⟨r,hri⟩:∃r,sw[i]?=some r:=⟨_,gE (by omega)⟩;obtain⟨k1,k2,k3⟩:=h.rows i r hri;refine⟨sg i,T,rfl,yF _,ak k1,λj hj=>⟨_,(A0 k1).trans ?_,rfl⟩⟩;rw[fy,MR r (by omega)]
   congr 3
   unfold D1;simp only[zh,hri,jm]
  show GC w w.heap.size vS pu.length _;rw[hp];exact LC h1 hT (λi hi=>⟨_,L6 _ hi,h2 i hi⟩)⟩
def aH (w:World) (L:List (List (List Pt))) (gr:Nat->Nat->Nat) (role:Nat->Option (Nat × Nat)):Prop:=
 (∀(n k:Nat) rs r,L[n]?=some rs->rs[k]?=some r->role (gr n k)=some (n,k))/\∀(g t:Nat) (c:Array Value) (fr:Nat × Nat),w.heap[g]?=some (.cells c t fr)->t≠9->role g=none
theorem uH  (h:Fw w B v L gn cn gr cr):∃role,aH w L gr role:=by
 classical
 refine⟨λg=>if hx:∃x:Nat × Nat,∃rs r,L[x.1]?=some rs/\rs[x.2]?=some r/\gr x.1 x.2=g then some hx.choose else none,λn k rs r hn hk=>?_,λg t c fr hg ht=>?_⟩
 ·have hx:∃x:Nat × Nat,∃rs r,L[x.1]?=some rs/\rs[x.2]?=some r/\gr x.1 x.2=gr n k:=⟨(n,k),rs,r,hn,hk,rfl⟩
  show(if hx:∃x:Nat × Nat,∃rs r,L[x.1]?=some rs/\rs[x.2]?=some r/\gr x.1 x.2=gr n k then some hx.choose else none)=_;rw[dif_pos hx];obtain⟨rs',r',h1,h2,h3⟩:=hx.choose_spec;obtain⟨e1,e2⟩:=h.inj _ _ _ _ rs' rs h1 (yS.1 h2).1 hn (yS.1 hk).1 h3
  congr 1
  exact vv e1 e2
 ·show(if hx:∃x:Nat × Nat,∃rs r,L[x.1]?=some rs/\rs[x.2]?=some r/\gr x.1 x.2=g then some hx.choose else none)=_
  rw[dif_neg];rintro⟨x,rs,r,h1,h2,rfl⟩;obtain⟨d,hd⟩:=(h.each x.1 rs h1).kind (yS.1 h2).1;exact G5 hg hd ht rfl
def UW (L:List (List (List Pt))) (n k p:Nat):Pt:=((L.getD n []).getD k []).getD p (.tok 0)
theorem XH {p:Nat}{r:List Pt}{a:Pt} (h1:L[n]?=some rs) (h2:rs[k]?=some r) (h3:r[p]?=some a):UW L n k p=a:=by
 unfold UW;simp only[zh,h1,h2,h3,jm]
theorem dN (n:Nat) (L:List (List (List Pt))):I0 n L 0 0 0 (UW L):=
 ⟨λn' rs k' r p' a h1 h2 h3=>⟨λhd=>by unfold LF at hd;omega,λ_=>XH h1 h2 h3⟩⟩
theorem wN  (h:EU w B b T pu dr sw vR vP vD vS sg) (hN:Fw w B vR L gn cn gr cr)
  (hl:0<L.length) (hr:∀rs∈L,0<rs.length) (hq:∀rs∈L,∀r∈rs,0<r.length) {role:Nat->Option (Nat × Nat)} (hro:aH w L gr role):∃gR cR,Kh w b L role gR cR gn cn gr cr (UW L):=by
 obtain⟨gR,cR,rfl,_,Bf,Eb⟩:=AX hN.row hl;obtain⟨cc,hcc⟩:=BI hN.row (g:=gR) rfl;have hname:∀{n:Nat}{rs:List (List Pt)},L[n]?=some rs->∃c,w.heap[gn n]?=some (.cells c 39 (0,0)):=λhn=>BI (hN.each _ _ hn).row rfl
 have hcap:∀{e n g c:Nat}{xs:List Value},w.ownsRow B e 1 (ae g n c) n xs->0<n->n<=c:=λh0 hn=>by
  obtain⟨g',c',e,_,_,h5⟩:=AX h0 hn;injection e with _ _ e3
  omega
 refine⟨gR,cR,hro.2 _ _ _ _ h.blk (by decide),hro.2 _ _ _ _ hcc (by decide),λn hn=>?_,λn rs k r h1 h2=>hro.1 n k rs r h1 h2,h.cells.1,Eb,λn rs hn=>?_,λn rs k r hn hk=>?_,λn rs k r p a hn hk hp=>?_⟩
 ·obtain⟨rs,hrs⟩:∃rs,L[n]?=some rs:=⟨_,gE hn⟩
  obtain⟨c,hc⟩:=hname hrs;exact hro.2 _ _ _ _ hc (by decide)
 ·have Ig:=(yS.1 hn).1
  have e:(L.getD n [])=rs:=by rw[zh,hn];rfl
  refine⟨(hN.row.cellAt n (by omega)).trans ?_,hcap (hN.each n rs hn).row (hr rs (mG hn))⟩;rw[L6 _ Ig,e]
 ·have hkl:=(yS.1 hk).1
  have e:(rs.getD k [])=r:=by rw[zh,hk];rfl
  refine⟨((hN.each n rs hn).row.cellAt k (by omega)).trans ?_,hcap ((hN.each n rs hn).each k r hk) (hq rs (mG hn) r (mG hk))⟩;rw[L6 _ hkl,e]
 ·have hpl:=(yS.1 hp).1
  refine⟨(((hN.each n rs hn).each k r hk).cellAt p (by omega)).trans ?_,((hN.each n rs hn).each k r hk).frozenAt p⟩;unfold Dm;rw[gM,hp,XH hn hk hp];rfl
theorem R7 {w':World}{role:Nat->Option (Nat × Nat)} (h:w.ownsRow B e 1 v n xs) (hn:0<n) (aaL:∀g c,w.heap[g]?=some (.cells c e (0,0))->role g=none) (Bb:O4 role w w') (hsz:w.heap.size<=w'.heap.size) {P:Nat->Value->Prop} (hP:∀j,j<n->∃x,xs[j]?=some x/\P j x):GC w' w'.heap.size v n P:=by
 obtain⟨g,cap,rfl,_,h2,h3⟩:=AX h hn;obtain⟨c,hc⟩:=BI h (g:=g) rfl;refine⟨g,cap,rfl,h3,by omega,λj hj=>?_⟩;obtain⟨x,hx,hp⟩:=hP j hj;exact⟨x,(Bb g j (aaL g c hc)).trans ((h.cellAt j (by omega)).trans hx),hp⟩
theorem uK {w':World} (h:EU w B b T pu dr sw vR vP vD vS sg)
  (hT:0<T) (hp:pu.length=T) (hd:dr.length=T) (hs:sw.length=T) (hl:0<L.length) (hr:∀rs∈L,0<rs.length) (hq:∀rs∈L,∀r∈rs,0<r.length)
  {role:Nat->Option (Nat × Nat)} (hro:aH w L gr role) {gR cR:Nat}{c:Nat->Nat->Nat->Pt} (hS:Kh w' b L role gR cR gn cn gr cr c) (hC:I0 L.length L L.length 0 0 c) (Bb:O4 role w w') (hsz:w.heap.size<=w'.heap.size):Gk w' w'.heap.size b (Mk.cut ⟨pu,dr,sw,L⟩):=by
 have hcl:(IY L.length L).length=L.length:=by unfold IY;rw[lM]
 have aaL:∀{e:Nat},e≠9->∀g c,w.heap[g]?=some (.cells c e (0,0))->role g=none:=λhe g c hg=>hro.2 _ _ _ _ hg he
 have hcell:∀(j:Nat),w'.cell? (af b j)=w.cell? (af b j):=λj=>Bb b j (hro.2 _ _ _ _ h.blk (by decide))
 refine⟨by have:=ak h.blk;omega,⟨_,hS.c0,?_⟩,⟨vP,(hcell 1).trans h.cells.2.1,?_⟩,⟨vD,(hcell 2).trans h.cells.2.2.1,?_⟩,⟨vS,(hcell 3).trans h.cells.2.2.2,?_⟩⟩
 ·show GC w' w'.heap.size (ae gR L.length cR) (IY L.length L).length _
  rw[hcl];obtain⟨rs0,ahV⟩:∃rs,L[0]?=some rs:=⟨_,gE hl⟩;refine⟨gR,cR,rfl,hS.lR,bq _ _ (hS.names 0 rs0 ahV).1,λn hn=>?_⟩;obtain⟨rs,hrs⟩:∃rs,L[n]?=some rs:=⟨_,gE hn⟩;have hm:=mG hrs;obtain⟨h1,h2⟩:=hS.names n rs hrs;refine⟨_,h1,rs.map (λr=>r.map (O3 L.length)),by show(IY L.length L)[n]?=_;unfold IY;rw[gM,hrs];rfl,?_⟩;rw[lM];obtain⟨r0,Fv⟩:∃r,rs[0]?=some r:=⟨_,gE (hr rs hm)⟩;refine⟨gn n,cn n,rfl,h2,bq _ _ (hS.rules n rs 0 r0 hrs Fv).1,λk hk=>?_⟩;obtain⟨r,Ce⟩:∃r,rs[k]?=some r:=⟨_,gE hk⟩;obtain⟨h3,h4⟩:=hS.rules n rs k r hrs Ce;refine⟨_,h3,r.map (O3 L.length),by rw[gM,Ce];rfl,?_⟩;rw[lM];have Ro:=hq rs hm r (mG Ce);obtain⟨a0,ha0⟩:∃a,r[0]?=some a:=⟨_,gE Ro⟩;refine⟨gr n k,cr n k,rfl,h4,bq _ _ (hS.parts n rs k r 0 a0 hrs Ce ha0).1,λp hp=>?_⟩;obtain⟨a,ha⟩:∃a,r[p]?=some a:=⟨_,gE hp⟩;refine⟨_,(hS.parts n rs k r p a hrs Ce ha).1,O3 L.length a,by rw[gM,ha];rfl,?_⟩
  rw[(hC.holds n rs k r p a hrs Ce ha).1 (by unfold LF;omega)]
 ·exact R7 h.yP (by show 0<pu.length;omega) (aaL (by decide)) Bb hsz (λj hj=>⟨_,MR pu hj,rfl⟩)
 ·have h1:=h.zk
  rw[hd,<-hp]at h1;exact R7 h1 (by omega) (aaL (by decide)) Bb hsz (λj hj=>⟨_,MR dr (by rw[hd,<-hp];exact hj),rfl⟩)
 ·have h1:=h.swaps
  rw[hs]at h1;show GC w' w'.heap.size vS pu.length _;rw[hp];refine R7 h1 hT (aaL (by decide)) Bb hsz (λi hi=>⟨_,L6 _ hi,?_⟩);obtain⟨r,hri⟩:∃r,sw[i]?=some r:=⟨_,gE (by omega)⟩;obtain⟨k1,k2,k3⟩:=h.rows i r hri;have e:(Mk.cut ⟨pu,dr,sw,L⟩).yP.length=T:=hp;rw[e];refine⟨sg i,T,rfl,yF _,by have:=ak k1;omega,λj hj=>⟨_,(Bb (sg i) j (hro.2 _ _ _ _ k1 (by decide))).trans ((A0 k1).trans ?_),rfl⟩⟩;rw[fy,MR r (by omega)]
  congr 3
  unfold D1;simp only[Mk.cut,zh,hri,jm]
section
attribute [local go_sem] Oper.semAt_some
abbrev RI (N:NG) (Wb:World) (n₀:Nat):={x:(Nat × List Pt) × Value // x.1∈N.rules/\C0 Wb n₀ x.2 x.1.2}
def WV {N:NG}{Wb:World}{n₀:Nat} (x:RI N Wb n₀):Array Value:= #[ab (x.1.1.1:Int),x.1.2]
def IE (pg:List Nm) (k:Nat):List (Nat × List Pt):=(pg.zipIdx.take k).flatMap λx=>x.1.2.map λps=>(x.2,ps)
theorem aM {pg:List Nm}{nm:Nm} (h:pg[k]?=some nm):IE pg (k+1)=IE pg k++nm.2.map λps=>(k,ps):=by
 have hk:=(yS.1 h).1;have e:pg.zipIdx[k]?=some (nm,k):=by rw[om,h];simp
 unfold IE;rw[gz (by simpa using hk),mg];rw[gE (by simpa using hk)]at e;injection e with e
 rw[e];simp
theorem dG (pg:List Nm)  (h:pg.length<=k):IE pg k=pg.zipIdx.flatMap λx=>x.1.2.map λps=>(x.2,ps):=by
 unfold IE;rw[jk Kb]
theorem L7 (pg:List Nm) {nm:Nm} (h:pg[k]?=some nm) (r:Nat):∃rest,(pg.zipIdx.flatMap λx=>x.1.2.map λps=>(x.2,ps))=(IE pg k++(nm.2.take r).map λps=>(k,ps))++((nm.2.drop r).map λps=>(k,ps))++rest:=by
 have hk:=(yS.1 h).1;have e:pg.zipIdx[k]?=some (nm,k):=by rw[om,h];simp
 obtain⟨hk2,e2⟩:=yS.1 e;refine⟨(pg.zipIdx.drop (k+1)).flatMap λx=>x.1.2.map λps=>(x.2,ps),?_⟩
 conv=>lhs;rw[<-qx k pg.zipIdx,gm hk2,e2]
 rw[mg,gy];have e3:nm.2.map (λps=>(k,ps))=(nm.2.take r).map (λps=>(k,ps))++(nm.2.drop r).map (λps=>(k,ps)):=by rw[<-ew,qx]
 unfold IE;simp only[e3,aA]
theorem mF (F:Fence) (n:Nat) (hF:F.fn 183) (hro:F.round=none) (hn:1<=n) (l Bn n₀:Nat) (N:NG) (yL:List ByteArray) (pg:List Nm) (yu:Option Addr) (yl gN xY:Nat) (Wb:World)
  (hP:Ba Wb n₀ N yL pg yu yl gN xY) (J Jx:List (RI N Wb n₀)->World->Prop) (W:World) (hJ:AbidesFrom W.heap.size J) (hbW:Below n₀ Wb W) (hn₀:n₀<=Wb.heap.size)
  (hY:∀pre x W,J pre W->pre.length<N.rules.length->YieldAt F (n - 1) Tryz.prog l (WV x) W λe W'=>
   (e=.returned (.bool true)/\J (pre++ [x]) W'/\Below n₀ W W')\/(e=.returned (.bool false)/\Jx (pre++ [x]) W'))
  (Lu:W.cell? (af Bn 1)=some (ae gN N.nN xY)) (h0:J [] W):
  CallsIn F n Tryz.prog 183 #[.func (.yield l) #[] #[],ac Bn] W λe W'=>(∃v,e=.returned v)/\
   ((∃ys:List (RI N Wb n₀),ys.map (λx=>x.1.1)=N.rules/\J ys W')\/(∃pre:List (RI N Wb n₀),True/\Jx pre W')):=by
 obtain⟨nN,hn1⟩:=qF (N.nN);have ahW:=hP.Bt;have lN:=hP.lN;have hgN:=hP.hgN;rw[<-hn1]at Lu ahW lN;have H1:Hid (nN=N.nN):=hid hn1;have HP:Hid (Ba Wb n₀ N yL pg yu yl gN xY):=hid hP;have HJ:=hid hJ;have HY:=hid hY;have zv:Hid (Below n₀ Wb W):=hid hbW;have Ki:Hid (J [] W):=hid h0;clear hn1 hP hJ hY hbW h0;refine ud Tryz.func183 rfl hF ?_ hro;simp only[Tryz.ntmps183,iz,lC,iw,Nat.reduceAdd,Nat.reduceSub,jg,jh,ju,jo,eu,ig]
 gi_wp2
 gi_loopw [10] (λp wr=>∃(i:Nat) (pre:List (RI N Wb n₀)),i<=nN/\p=ab i/\Hid (pre.map (λx=>x.1.1)=IE pg i)/\Hid (J pre wr)/\Hid (Below n₀ Wb wr)) (λp _=>nN - (intOf p).toNat)
 case atStart=>exact⟨0,[],bu _,rfl,hid rfl,Ki,zv⟩
 case round=>
  clear Ki zv Lu;obtain⟨i,pre,hi,rfl,hpre,hJs,hbr⟩:=hrel
  by_cases hlt:i<nN
  ·obtain⟨nm,hnm⟩:∃nm,pg[i]?=some nm:=⟨_,gE (by rw[HP.out.Rg,<-H1.out];exact hlt)⟩
   obtain⟨c0,v,c1,g,cap,hv,hg,hcap,hrs⟩:=HP.out.names i nm hnm;subst hv;have c0:=(hbr.out.cell (p:=(af gN (i*2))) hgN).trans c0;have c1:=(hbr.out.cell (p:=(af gN (i*2+1))) hgN).trans c1;obtain⟨nR,Ie⟩:=qF (nm.2.length);have Gl:Hid (nR=nm.2.length):=hid Ie;have Kj:Hid (pg[i]?=some nm):=hid hnm;have HRs:=hid hrs;have akJ:nR<=60:=by
    obtain⟨rest,hr⟩:=L7 pg hnm nR;have h1:=congrArg List.length hr;rw[<-HP.out.rules,Ie,mj]at h1;have h2:=HP.out.Lr;simp only[lA,lM]at h1;omega
   rw[<-Ie]at c1 hcap;have HJ1:Hid (J pre (wr.alloc (.cells #[.string nm.1,ae g nR cap] 219))):=hid (HJ.out pre wr _ none hJs.out (World.grownBy_alloc wr _ none) (λr e=>by cases e));have yR:Hid (Below n₀ Wb (wr.alloc (.cells #[.string nm.1,ae g nR cap] 219))):=hid (hbr.out.alloc (y5 hn₀ hbr.out.size) _);clear hnm Ie hrs hJs hbr
   gi_wp2
   gi_loopw [18] (λp wr=>∃(r:Nat) (pre:List (RI N Wb n₀)),r<=nR/\p=ab r/\Hid (pre.map (λx=>x.1.1)=IE pg i++(nm.2.take r).map λps=>(i,ps))/\Hid (J pre wr)/\Hid (Below n₀ Wb wr)) (λp _=>nR - (intOf p).toNat)
   case atStart=>exact⟨0,pre,bu _,rfl,hid (by rw[hpre.out];simp),HJ1,yR⟩
   case round=>
    clear HJ1 yR c0 c1;obtain⟨r,pre,hr,rfl,hpre,hJs,hbr⟩:=hrel
    by_cases hlr:r<nR
    ·obtain⟨ps,hps⟩:∃ps,nm.2[r]?=some ps:=⟨_,gE (by rw[<-Gl.out];exact hlr)⟩
     obtain⟨p,Bu,Hy⟩:=HRs.out r ps hps;have cp:=(hbr.out.cell (p:=(af g r)) hg).trans Bu;have hmem:(i,ps)∈N.rules:=by
      rw[HP.out.rules,ow];refine⟨(nm,i),?_,?_⟩
      ·have e:pg.zipIdx[i]?=some (nm,i):=by rw[om,Kj.out];simp
       exact mG e
      ·exact cj.2 ⟨ps,mG hps,rfl⟩
     have hlen:pre.length<N.rules.length:=by
      obtain⟨rest,Wk⟩:=L7 pg Kj.out r;have h1:=congrArg List.length Wk;have h2:=congrArg List.length hpre.out;rw[<-HP.out.rules]at h1;simp only[lA,lM,ku]at h1 h2;have h3:=Gl.out;omega
     obtain⟨x,hx⟩:∃x:RI N Wb n₀,x.1=((i,ps),p):=⟨⟨((i,ps),p),hmem,Hy⟩,rfl⟩;obtain⟨fn,tmps,assign,body,hy,hR⟩:=HY.out pre x wr hJs.out hlen;have Bh:Hid ((pre++ [x]).map (λx=>x.1.1)=IE pg i++(nm.2.take (r+1)).map λps=>(i,ps)):=hid (by
      obtain⟨hr2,e⟩:=yS.1 hps;rw[ew,hpre.out,gz hr2,e];simp[hx])
     have hy:(Instr.yield l #[ab (i:Int),p]).run Tryz.prog wr=.ok (.round l fn tmps assign body) wr:=by
      have h1:=hy;unfold WV at h1;rw[hx]at h1;exact h1
     have HR:=hid hR;clear hR hx hlen hmem hps Bu hpre
     gi_wp2
     refine HR.out.mono ?_;rintro e W3 (⟨rfl,hJ3,hk3⟩ | ⟨rfl,aaM⟩)
     ·have Wm:=hid hJ3
      have zy:=hid (hbr.out.trans hk3);clear hJ3 hk3
      gi_wp2
      go_roundw
      case rel=>exact⟨r+1,pre++ [x],by omega,by go_num,Bh,Wm,zy⟩
      case measure=>simp[intOf];omega
     ·gi_wp2
      refine xm (ql rfl _ _ _) rfl ?_;exact⟨⟨_,rfl⟩,.inr ⟨pre++ [x],trivial,aaM⟩⟩
    ·have Bh:Hid (pre.map (λx=>x.1.1)=IE pg (i+1)):=hid (by
      rw[hpre.out,aM Kj.out,jk (by have:=Gl.out;omega)])
     gi_wp2
     go_roundw
     case rel=>exact⟨i+1,pre,by omega,by go_num,Bh,hJs,hbr⟩
     case measure=>simp[intOf];omega
  ·have Bh:Hid (pre.map (λx=>x.1.1)=N.rules):=hid (by
    rw[hpre.out,HP.out.rules,dG pg (by rw[HP.out.Rg];have:=H1.out;omega)])
   gi_wp2
   go_end0
   exact⟨⟨_,rfl⟩,.inl ⟨pre,Bh.out,hJs.out⟩⟩
end
end Go.Proofs.YtjjggdcnpndgjaaGreatDoor
