import Derived.Test.YtjjggdcnpndgjaaGreatDoorCJ10
import Derived.Laws.StructEq
import Derived.Lib.SliceRun
import Derived.OrdersIn
import Derived.TacticsIn
set_option linter.unusedSimpArgs false
set_option maxHeartbeats 2000000
set_option maxRecDepth 100000
namespace Go.Proofs.YtjjggdcnpndgjaaGreatDoor
abbrev bu:=@Go.World.block_lt_of_cell?
abbrev iw:=@List.cons_append
abbrev jm:=@Array.replicate_succ
abbrev jo:=@Array.replicate_zero
abbrev jr:=@List.append_toArray
abbrev jy:=@List.push_toArray
abbrev mo:=@List.flatMap_append
abbrev nk:=@Go.callsIn_wide
abbrev oz:=@List.getElem?_zipIdx
abbrev qz:=@Go.results_none
abbrev uq:=@Go.callsIn_of_wp
abbrev wh:=@Go.World.drewN_drewN
abbrev ya:=@Go.bodyPost_ret
abbrev yV:=@Go.CallsIn.inRound
open Go.RowKit Go.Shelf
variable {B T b e j k l n:Nat}{L:List (List (List Pt))}{P:Program}{Q:Exit->Act->World->Prop}{ck cn gk gn sg:Nat->Nat}{cr gr:Nat->Nat->Nat}{dr pu:List Nat}{ops:Array Oper}{rs:List (List Pt)}{sw:List (List Nat)}{v vD vP vR vS:Value}{w:World}{xs:List Value}
theorem LW {B' sz:Nat} (h:w.ownsRow B e sz v n xs) (hB:B'<=B):w.ownsRow B' e sz v n xs:=by
 obtain⟨h1,h2⟩:=h;refine⟨h1,?_⟩
 rcases h2 with h2 | ⟨g,cap,cur,hv,hg,r⟩
 ·exact .inl h2
 ·exact .inr ⟨g,cap,cur,hv,zV hB hg,r⟩
theorem Dd.base {B':Nat} (h:Dd w B v rs gk ck) (hB:B'<=B):Dd w B' v rs gk ck:=
 ⟨LW h.row hB,λk r hr=>LW (h.each k r hr) hB⟩
theorem Dd.kind  (h:Dd w B v rs gk ck)  (hk:k<rs.length):∃c,w.heap[gk k]?=some (.cells c 9 (0,0)):=by
 obtain⟨r,hr⟩:∃r,rs[k]?=some r:=⟨_,gE hk⟩;exact BQ (h.each k r hr) rfl
theorem Ie.push {w1:World}{g c g' cap:Nat} (h:Ie w B v L gn cn gr cr) (hr:Dd w B (ae g rs.length c) rs gk ck)
  (hinj:∀i j,i<rs.length->j<rs.length->gk i=gk j->i=j) (hold:∀(n:Nat) rs' (k j:Nat),L[n]?=some rs'->k<rs'.length->j<rs.length->gr n k≠gk j) (hk:A5 w w1 v.ownBlock.toList)
  (hown:w1.ownsRow B 46 1 (ae g' (L.length+1) cap) (L.length+1) (((List.range L.length).map λn=>Value.slice (some ⟨gn n,0,none⟩) ((L.getD n []).length) (cn n))++ [ae g rs.length c])):
  Ie w1 B (ae g' (L.length+1) cap) (L++ [rs]) (λn=>if n=L.length then g else gn n) (λn=>if n=L.length then c else cn n) (λn k=>if n=L.length then gk k else gr n k) (λn k=>if n=L.length then ck k else cr n k):=by
 have hrs:∀{q:Value}{qs:List (List Pt)}{fk fc:Nat->Nat},Dd w B q qs fk fc->Dd w1 B q qs fk fc:=λhq=>hq.keeps hk (AO h.row (by decide)) (λk hkl hm=>by
  obtain⟨cc,hc⟩:=hq.kind hkl;obtain⟨dd,hd⟩:=BQ h.row (BJ hm);exact GI hc hd (by decide) rfl)
 refine⟨?_,λn qs hq=>?_,λn k n' k' qs qs' h1 h2 h3 h4 he=>?_⟩
 ·rw[lA,fu]
  rw[VA L.length (λn=>Value.slice (some ⟨gn n,0,none⟩) ((L.getD n []).length) (cn n))]
  ·simp only[ay,Af,List.getElem?_concat_length,jq]
   simp only[Af]at hown;exact hown
  ·intro i hi
   simp only[aq (show ¬i=L.length by omega),Af,aL hi]
 ·by_cases hi:n<L.length
  ·rw[aL hi]at hq
   simp only[aq (show ¬n=L.length by omega)];exact hrs (h.each n qs hq)
  ·rw[Bc (by omega)]at hq
   obtain⟨hl,e⟩:=zM.1 hq;simp only[fu]at hl;have hn:n=L.length:=by omega
   subst hn;simp only[ku,qa]at e;subst e;simp only[ay];exact hrs hr
 ·have old:∀{m:Nat}{ps:List (List Pt)},(L++ [rs])[m]?=some ps->(m<L.length/\L[m]?=some ps)\/(m=L.length/\ps=rs):=λ{m ps} hm=>by
   by_cases hi:m<L.length
   ·rw[aL hi]at hm;exact .inl ⟨hi,hm⟩
   ·rw[Bc (by omega)]at hm
    obtain⟨hl,e⟩:=zM.1 hm;simp only[fu]at hl;have hm':m=L.length:=by omega
    subst hm';simp only[ku,qa]at e;exact .inr ⟨rfl,e.symm⟩
  rcases old h1 with⟨a1,a2⟩ | ⟨rfl,rfl⟩ <;> rcases old h3 with⟨b1,b2⟩ | ⟨rfl,rfl⟩
  ·simp only[aq (show ¬n=L.length by omega),aq (show ¬n'=L.length by omega)]at he
   exact h.inj n k n' k' qs qs' a2 h2 b2 h4 he
  ·simp only[aq (show ¬n=L.length by omega),ay]at he
   exact absurd he (hold n qs k k' a2 h2 h4)
  ·simp only[aq (show ¬n'=L.length by omega),ay]at he
   exact absurd he.symm (hold n' qs' k' k b2 h4 h2)
  ·simp only[ay]at he
   exact⟨rfl,hinj k k' h2 h4 he⟩
theorem Ie.setOther {gb:Nat}{u:Value}{cs:Array Value}{fr:Nat × Nat} (h:Ie w B v L gn cn gr cr) (hb:w.heap[gb]?=some (.cells cs 77 fr)):Ie (w.setCell (af gb j) u) B v L gn cn gr cr:=
 ⟨CZ h.row hb (by decide),λn rs hn=>(h.each n rs hn).setOther hb (by decide) (by decide),h.inj⟩
theorem F7.ait {w1:World} (h:F7 w B b T pu dr sw vR vP vD vS sg) (hrow:w.ownsRow B 46 1 vR n xs) (hk:A5 w w1 vR.ownBlock.toList) (u:Value):F7 (w1.setCell (af b 0) u) B b T pu dr sw u vP vD vS sg:=by
 have h':=h.keeps hk (AO hrow (by decide)) (AO hrow (by decide)) (AO hrow (by decide));refine⟨AA h'.blk _,h'.hb,CZ h'.zJ h'.blk (by decide),CZ h'.Ai h'.blk (by decide),CZ h'.swaps h'.blk (by decide),λi r hr=>?_,h'.pd,h'.ps,h'.inj⟩;obtain⟨h1,h2,h3⟩:=h'.rows i r hr;exact⟨(je _ _ _ _ (by exact GI h1 h'.blk (by decide))).trans h1,h2,h3⟩
theorem LK  (h:w.ownsRow B e 1 v n xs) (hn:0<n) {P:Nat->Value->Prop} (hP:∀j,j<n->∃x,xs[j]?=some x/\P j x):GN w w.heap.size v n P:=by
 obtain⟨g,cap,rfl,_,h2,h3⟩:=B4 h hn;refine⟨g,cap,rfl,h3,h2,λj hj=>?_⟩;obtain⟨x,hx,hp⟩:=hP j hj;exact⟨x,(h.cellAt j (by omega)).trans hx,hp⟩
theorem N1 (l:List Nat)  (h:j<l.length):(IZ l)[j]?=some (ab (l.getD j 0:Nat)):=by
 unfold IZ;rw[gM,gE h,Af,gE h];rfl
theorem LX {α:Type} (f:Nat->α)  (h:j<n):((List.range n).map f)[j]?=some (f j):=by
 rw[gM,ny h];rfl
theorem xE  (h:F7 w B b T pu dr sw vR vP vD vS sg) (hN:Ie w B vR L gn cn gr cr)
  (hT:0<T) (hp:pu.length=T) (hd:dr.length=T) (hs:sw.length=T) (hl:0<L.length) (hr:∀rs∈L,0<rs.length) (hq:∀rs∈L,∀r∈rs,0<r.length):Gf w w.heap.size b ⟨pu,dr,sw,L⟩ where
 lt:=ak h.blk
 rules:=⟨vR,h.cells.1,LK hN.row hl (λn hn=>⟨_,LX _ hn,by
  obtain⟨rs,hrs⟩:∃rs,L[n]?=some rs:=⟨_,gE hn⟩;have hm:=mG hrs;have e:(L.getD n [])=rs:=by rw[Af,hrs];rfl
  rw[e];refine⟨rs,hrs,LK (hN.each n rs hrs).row (hr rs hm) (λk hk=>⟨_,LX _ hk,?_⟩)⟩;obtain⟨r,Co⟩:∃r,rs[k]?=some r:=⟨_,gE hk⟩;have e2:(rs.getD k [])=r:=by rw[Af,Co];rfl
  rw[e2];refine⟨r,Co,LK ((hN.each n rs hrs).each k r Co) (hq rs hm r (mG Co)) (λp hp=>?_)⟩;obtain⟨q,hq⟩:∃q,r[p]?=some q:=⟨_,gE hp⟩;exact⟨.string (EG q),by unfold Ff;rw[gM,hq];rfl,q,hq,rfl⟩⟩)⟩
 zJ:=⟨vP,h.cells.2.1,LK h.zJ (by omega) (λj hj=>⟨_,N1 pu hj,rfl⟩)⟩
 Ai:=⟨vD,h.cells.2.2.1,by
  have h1:=h.Ai;rw[hd,<-hp]at h1;exact LK h1 (by show 0<pu.length;omega) (λj hj=>⟨_,N1 dr (by rw[hd,<-hp];exact hj),rfl⟩)⟩
 swaps:=⟨vS,h.cells.2.2.2,by
  have h1:=h.swaps;rw[hs]at h1;have h2:∀i,i<T->GN w w.heap.size (.slice (some ⟨sg i,0,none⟩) T T) T λj y=>y=ab (DA ⟨pu,dr,sw,L⟩ i j:Nat):=λi hi=>by
   obtain⟨r,hri⟩:∃r,sw[i]?=some r:=⟨_,gE (by omega)⟩;obtain⟨k1,k2,k3⟩:=h.rows i r hri;refine⟨sg i,T,rfl,zn _,ak k1,λj hj=>⟨_,(A0 k1).trans ?_,rfl⟩⟩;rw[ia,N1 r (by omega)]
   congr 3
   unfold DA;simp only[Af,hri,jq]
  show GN w w.heap.size vS pu.length _;rw[hp];exact LK h1 hT (λi hi=>⟨_,LX _ hi,h2 i hi⟩)⟩
def bY (w:World) (L:List (List (List Pt))) (gr:Nat->Nat->Nat) (role:Nat->Option (Nat × Nat)):Prop:=
 (∀(n k:Nat) rs r,L[n]?=some rs->rs[k]?=some r->role (gr n k)=some (n,k))/\∀(g t:Nat) (c:Array Value) (fr:Nat × Nat),w.heap[g]?=some (.cells c t fr)->t≠9->role g=none
theorem vF  (h:Ie w B v L gn cn gr cr):∃role,bY w L gr role:=by
 classical
 refine⟨λg=>if hx:∃x:Nat × Nat,∃rs r,L[x.1]?=some rs/\rs[x.2]?=some r/\gr x.1 x.2=g then some hx.choose else none,λn k rs r hn hk=>?_,λg t c fr hg ht=>?_⟩
 ·have hx:∃x:Nat × Nat,∃rs r,L[x.1]?=some rs/\rs[x.2]?=some r/\gr x.1 x.2=gr n k:=⟨(n,k),rs,r,hn,hk,rfl⟩
  show(if hx:∃x:Nat × Nat,∃rs r,L[x.1]?=some rs/\rs[x.2]?=some r/\gr x.1 x.2=gr n k then some hx.choose else none)=_;rw[dif_pos hx];obtain⟨rs',r',h1,h2,h3⟩:=hx.choose_spec;obtain⟨e1,e2⟩:=h.inj _ _ _ _ rs' rs h1 (zM.1 h2).1 hn (zM.1 hk).1 h3
  congr 1
  exact xe e1 e2
 ·show(if hx:∃x:Nat × Nat,∃rs r,L[x.1]?=some rs/\rs[x.2]?=some r/\gr x.1 x.2=g then some hx.choose else none)=_
  rw[dif_neg];rintro⟨x,rs,r,h1,h2,rfl⟩;obtain⟨d,hd⟩:=(h.each x.1 rs h1).kind (zM.1 h2).1;exact GI hg hd ht rfl
def V5 (L:List (List (List Pt))) (n k p:Nat):Pt:=((L.getD n []).getD k []).getD p (.tok 0)
theorem YE {p:Nat}{r:List Pt}{a:Pt} (h1:L[n]?=some rs) (h2:rs[k]?=some r) (h3:r[p]?=some a):V5 L n k p=a:=by
 unfold V5;simp only[Af,h1,h2,h3,jq]
theorem fZ (n:Nat) (L:List (List (List Pt))):IA n L 0 0 0 (V5 L):=
 ⟨λn' rs k' r p' a h1 h2 h3=>⟨λhd=>by unfold LT at hd;omega,λ_=>YE h1 h2 h3⟩⟩
theorem wH  (h:F7 w B b T pu dr sw vR vP vD vS sg) (hN:Ie w B vR L gn cn gr cr)
  (hl:0<L.length) (hr:∀rs∈L,0<rs.length) (hq:∀rs∈L,∀r∈rs,0<r.length) {role:Nat->Option (Nat × Nat)} (hro:bY w L gr role):∃gR cR,Md w b L role gR cR gn cn gr cr (V5 L):=by
 obtain⟨gR,cR,rfl,_,Bu,Fy⟩:=B4 hN.row hl;obtain⟨cc,hcc⟩:=BQ hN.row (g:=gR) rfl;have hname:∀{n:Nat}{rs:List (List Pt)},L[n]?=some rs->∃c,w.heap[gn n]?=some (.cells c 39 (0,0)):=λhn=>BQ (hN.each _ _ hn).row rfl
 have hcap:∀{e n g c:Nat}{xs:List Value},w.ownsRow B e 1 (ae g n c) n xs->0<n->n<=c:=λh0 hn=>by
  obtain⟨g',c',e,_,_,h5⟩:=B4 h0 hn;injection e with _ _ e3
  omega
 refine⟨gR,cR,hro.2 _ _ _ _ h.blk (by decide),hro.2 _ _ _ _ hcc (by decide),λn hn=>?_,λn rs k r h1 h2=>hro.1 n k rs r h1 h2,h.cells.1,Fy,λn rs hn=>?_,λn rs k r hn hk=>?_,λn rs k r p a hn hk hp=>?_⟩
 ·obtain⟨rs,hrs⟩:∃rs,L[n]?=some rs:=⟨_,gE hn⟩
  obtain⟨c,hc⟩:=hname hrs;exact hro.2 _ _ _ _ hc (by decide)
 ·have Ej:=(zM.1 hn).1
  have e:(L.getD n [])=rs:=by rw[Af,hn];rfl
  refine⟨(hN.row.cellAt n (by omega)).trans ?_,hcap (hN.each n rs hn).row (hr rs (mG hn))⟩;rw[LX _ Ej,e]
 ·have hkl:=(zM.1 hk).1
  have e:(rs.getD k [])=r:=by rw[Af,hk];rfl
  refine⟨((hN.each n rs hn).row.cellAt k (by omega)).trans ?_,hcap ((hN.each n rs hn).each k r hk) (hq rs (mG hn) r (mG hk))⟩;rw[LX _ hkl,e]
 ·have hpl:=(zM.1 hp).1
  refine⟨(((hN.each n rs hn).each k r hk).cellAt p (by omega)).trans ?_,((hN.each n rs hn).each k r hk).frozenAt p⟩;unfold Ff;rw[gM,hp,YE hn hk hp];rfl
theorem R4 {w':World}{role:Nat->Option (Nat × Nat)} (h:w.ownsRow B e 1 v n xs) (hn:0<n) (abr:∀g c,w.heap[g]?=some (.cells c e (0,0))->role g=none) (Da:OD role w w') (hsz:w.heap.size<=w'.heap.size) {P:Nat->Value->Prop} (hP:∀j,j<n->∃x,xs[j]?=some x/\P j x):GN w' w'.heap.size v n P:=by
 obtain⟨g,cap,rfl,_,h2,h3⟩:=B4 h hn;obtain⟨c,hc⟩:=BQ h (g:=g) rfl;refine⟨g,cap,rfl,h3,by omega,λj hj=>?_⟩;obtain⟨x,hx,hp⟩:=hP j hj;exact⟨x,(Da g j (abr g c hc)).trans ((h.cellAt j (by omega)).trans hx),hp⟩
theorem tQ {w':World} (h:F7 w B b T pu dr sw vR vP vD vS sg)
  (hT:0<T) (hp:pu.length=T) (hd:dr.length=T) (hs:sw.length=T) (hl:0<L.length) (hr:∀rs∈L,0<rs.length) (hq:∀rs∈L,∀r∈rs,0<r.length)
  {role:Nat->Option (Nat × Nat)} (hro:bY w L gr role) {gR cR:Nat}{c:Nat->Nat->Nat->Pt} (hS:Md w' b L role gR cR gn cn gr cr c) (hC:IA L.length L L.length 0 0 c) (Da:OD role w w') (hsz:w.heap.size<=w'.heap.size):Gf w' w'.heap.size b (Mk.cut ⟨pu,dr,sw,L⟩):=by
 have hcl:(JC L.length L).length=L.length:=by unfold JC;rw[lM]
 have abr:∀{e:Nat},e≠9->∀g c,w.heap[g]?=some (.cells c e (0,0))->role g=none:=λhe g c hg=>hro.2 _ _ _ _ hg he
 have hcell:∀(j:Nat),w'.cell? (af b j)=w.cell? (af b j):=λj=>Da b j (hro.2 _ _ _ _ h.blk (by decide))
 refine⟨by have:=ak h.blk;omega,⟨_,hS.c0,?_⟩,⟨vP,(hcell 1).trans h.cells.2.1,?_⟩,⟨vD,(hcell 2).trans h.cells.2.2.1,?_⟩,⟨vS,(hcell 3).trans h.cells.2.2.2,?_⟩⟩
 ·show GN w' w'.heap.size (ae gR L.length cR) (JC L.length L).length _
  rw[hcl];obtain⟨rs0,aiu⟩:∃rs,L[0]?=some rs:=⟨_,gE hl⟩;refine⟨gR,cR,rfl,hS.lR,bu _ _ (hS.names 0 rs0 aiu).1,λn hn=>?_⟩;obtain⟨rs,hrs⟩:∃rs,L[n]?=some rs:=⟨_,gE hn⟩;have hm:=mG hrs;obtain⟨h1,h2⟩:=hS.names n rs hrs;refine⟨_,h1,rs.map (λr=>r.map (OA L.length)),by show(JC L.length L)[n]?=_;unfold JC;rw[gM,hrs];rfl,?_⟩;rw[lM];obtain⟨r0,Hz⟩:∃r,rs[0]?=some r:=⟨_,gE (hr rs hm)⟩;refine⟨gn n,cn n,rfl,h2,bu _ _ (hS.rules n rs 0 r0 hrs Hz).1,λk hk=>?_⟩;obtain⟨r,Co⟩:∃r,rs[k]?=some r:=⟨_,gE hk⟩;obtain⟨h3,h4⟩:=hS.rules n rs k r hrs Co;refine⟨_,h3,r.map (OA L.length),by rw[gM,Co];rfl,?_⟩;rw[lM];have Ud:=hq rs hm r (mG Co);obtain⟨a0,ha0⟩:∃a,r[0]?=some a:=⟨_,gE Ud⟩;refine⟨gr n k,cr n k,rfl,h4,bu _ _ (hS.parts n rs k r 0 a0 hrs Co ha0).1,λp hp=>?_⟩;obtain⟨a,ha⟩:∃a,r[p]?=some a:=⟨_,gE hp⟩;refine⟨_,(hS.parts n rs k r p a hrs Co ha).1,OA L.length a,by rw[gM,ha];rfl,?_⟩
  rw[(hC.holds n rs k r p a hrs Co ha).1 (by unfold LT;omega)]
 ·exact R4 h.zJ (by show 0<pu.length;omega) (abr (by decide)) Da hsz (λj hj=>⟨_,N1 pu hj,rfl⟩)
 ·have h1:=h.Ai
  rw[hd,<-hp]at h1;exact R4 h1 (by omega) (abr (by decide)) Da hsz (λj hj=>⟨_,N1 dr (by rw[hd,<-hp];exact hj),rfl⟩)
 ·have h1:=h.swaps
  rw[hs]at h1;show GN w' w'.heap.size vS pu.length _;rw[hp];refine R4 h1 hT (abr (by decide)) Da hsz (λi hi=>⟨_,LX _ hi,?_⟩);obtain⟨r,hri⟩:∃r,sw[i]?=some r:=⟨_,gE (by omega)⟩;obtain⟨k1,k2,k3⟩:=h.rows i r hri;have e:(Mk.cut ⟨pu,dr,sw,L⟩).zJ.length=T:=hp;rw[e];refine⟨sg i,T,rfl,zn _,by have:=ak k1;omega,λj hj=>⟨_,(Da (sg i) j (hro.2 _ _ _ _ k1 (by decide))).trans ((A0 k1).trans ?_),rfl⟩⟩;rw[ia,N1 r (by omega)]
  congr 3
  unfold DA;simp only[Mk.cut,Af,hri,jq]
section
attribute [local go_sem] Oper.semAt_some
abbrev RI (N:NG) (Wb:World) (n₀:Nat):={x:(Nat × List Pt) × Value // x.1∈N.rules/\D1 Wb n₀ x.2 x.1.2}
def XJ {N:NG}{Wb:World}{n₀:Nat} (x:RI N Wb n₀):Array Value:= #[ab (x.1.1.1:Int),x.1.2]
def IU (pg:List Nm) (k:Nat):List (Nat × List Pt):=(pg.zipIdx.take k).flatMap λx=>x.1.2.map λps=>(x.2,ps)
theorem eB {pg:List Nm}{nm:Nm} (h:pg[k]?=some nm):IU pg (k+1)=IU pg k++nm.2.map λps=>(k,ps):=by
 have hk:=(zM.1 h).1;have e:pg.zipIdx[k]?=some (nm,k):=by rw[oz,h];simp
 unfold IU;rw[iq (by simpa using hk),mo];rw[gE (by simpa using hk)]at e;injection e with e
 rw[e];simp
theorem fO (pg:List Nm)  (h:pg.length<=k):IU pg k=pg.zipIdx.flatMap λx=>x.1.2.map λps=>(x.2,ps):=by
 unfold IU;rw[jk Lx]
theorem LV (pg:List Nm) {nm:Nm} (h:pg[k]?=some nm) (r:Nat):∃rest,(pg.zipIdx.flatMap λx=>x.1.2.map λps=>(x.2,ps))=(IU pg k++(nm.2.take r).map λps=>(k,ps))++((nm.2.drop r).map λps=>(k,ps))++rest:=by
 have hk:=(zM.1 h).1;have e:pg.zipIdx[k]?=some (nm,k):=by rw[oz,h];simp
 obtain⟨hk2,e2⟩:=zM.1 e;refine⟨(pg.zipIdx.drop (k+1)).flatMap λx=>x.1.2.map λps=>(x.2,ps),?_⟩
 conv=>lhs;rw[<-td k pg.zipIdx,gm hk2,e2]
 rw[mo,ij];have e3:nm.2.map (λps=>(k,ps))=(nm.2.take r).map (λps=>(k,ps))++(nm.2.drop r).map (λps=>(k,ps)):=by rw[<-fq,td]
 unfold IU;simp only[e3,aA]
theorem oK (F:Fence) (n:Nat) (hF:F.fn 183) (hro:F.round=none) (hn:1<=n) (l Bn n₀:Nat) (N:NG) (zy:List ByteArray) (pg:List Nm) (yZ:Option Addr) (yT gN yQ:Nat) (Wb:World)
  (hP:Cz Wb n₀ N zy pg yZ yT gN yQ) (J Jx:List (RI N Wb n₀)->World->Prop) (W:World) (hJ:AbidesFrom W.heap.size J) (hbW:Below n₀ Wb W) (hn₀:n₀<=Wb.heap.size)
  (hY:∀pre x W,J pre W->pre.length<N.rules.length->YieldAt F (n - 1) Tryz.prog l (XJ x) W λe W'=>
   (e=.returned (.bool true)/\J (pre++ [x]) W'/\Below n₀ W W')\/(e=.returned (.bool false)/\Jx (pre++ [x]) W'))
  (Nk:W.cell? (af Bn 1)=some (ae gN N.nN yQ)) (h0:J [] W):
  CallsIn F n Tryz.prog 183 #[.func (.yield l) #[] #[],ac Bn] W λe W'=>(∃v,e=.returned v)/\
   ((∃ys:List (RI N Wb n₀),ys.map (λx=>x.1.1)=N.rules/\J ys W')\/(∃pre:List (RI N Wb n₀),True/\Jx pre W')):=by
 obtain⟨nN,hn1⟩:=qF (N.nN);have aiv:=hP.Dm;have lN:=hP.lN;have hgN:=hP.hgN;rw[<-hn1]at Nk aiv lN;have H1:Hid (nN=N.nN):=hid hn1;have HP:Hid (Cz Wb n₀ N zy pg yZ yT gN yQ):=hid hP;have HJ:=hid hJ;have HY:=hid hY;have Ah:Hid (Below n₀ Wb W):=hid hbW;have Me:Hid (J [] W):=hid h0;clear hn1 hP hJ hY hbW h0;refine uq Tryz.func183 rfl hF ?_ hro;simp only[Tryz.ntmps183,jf,lC,jd,Nat.reduceAdd,Nat.reduceSub,jm,jo,jy,jr,ey,iw]
 gi_wp2
 gi_loopw [10] (λp wr=>∃(i:Nat) (pre:List (RI N Wb n₀)),i<=nN/\p=ab i/\Hid (pre.map (λx=>x.1.1)=IU pg i)/\Hid (J pre wr)/\Hid (Below n₀ Wb wr)) (λp _=>nN - (intOf p).toNat)
 case atStart=>exact⟨0,[],dh _,rfl,hid rfl,Me,Ah⟩
 case round=>
  clear Me Ah Nk;obtain⟨i,pre,hi,rfl,hpre,hJs,hbr⟩:=hrel
  by_cases hlt:i<nN
  ·obtain⟨nm,hnm⟩:∃nm,pg[i]?=some nm:=⟨_,gE (by rw[HP.out.Tu,<-H1.out];exact hlt)⟩
   obtain⟨c0,v,c1,g,cap,hv,hg,hcap,hrs⟩:=HP.out.names i nm hnm;subst hv;have c0:=(hbr.out.cell (p:=(af gN (i*2))) hgN).trans c0;have c1:=(hbr.out.cell (p:=(af gN (i*2+1))) hgN).trans c1;obtain⟨nR,Ic⟩:=qF (nm.2.length);have Jd:Hid (nR=nm.2.length):=hid Ic;have Mf:Hid (pg[i]?=some nm):=hid hnm;have HRs:=hid hrs;have alk:nR<=60:=by
    obtain⟨rest,hr⟩:=LV pg hnm nR;have h1:=congrArg List.length hr;rw[<-HP.out.rules,Ic,om]at h1;have h2:=HP.out.Nh;simp only[lA,lM]at h1;omega
   rw[<-Ic]at c1 hcap;have HJ1:Hid (J pre (wr.alloc (.cells #[.string nm.1,ae g nR cap] 219))):=hid (HJ.out pre wr _ none hJs.out (World.grownBy_alloc wr _ none) (λr e=>by cases e));have zL:Hid (Below n₀ Wb (wr.alloc (.cells #[.string nm.1,ae g nR cap] 219))):=hid (hbr.out.alloc (zV hn₀ hbr.out.size) _);clear hnm Ic hrs hJs hbr
   gi_wp2
   gi_loopw [18] (λp wr=>∃(r:Nat) (pre:List (RI N Wb n₀)),r<=nR/\p=ab r/\Hid (pre.map (λx=>x.1.1)=IU pg i++(nm.2.take r).map λps=>(i,ps))/\Hid (J pre wr)/\Hid (Below n₀ Wb wr)) (λp _=>nR - (intOf p).toNat)
   case atStart=>exact⟨0,pre,dh _,rfl,hid (by rw[hpre.out];simp),HJ1,zL⟩
   case round=>
    clear HJ1 zL c0 c1;obtain⟨r,pre,hr,rfl,hpre,hJs,hbr⟩:=hrel
    by_cases hlr:r<nR
    ·obtain⟨ps,hps⟩:∃ps,nm.2[r]?=some ps:=⟨_,gE (by rw[<-Jd.out];exact hlr)⟩
     obtain⟨p,Dn,Km⟩:=HRs.out r ps hps;have cp:=(hbr.out.cell (p:=(af g r)) hg).trans Dn;have hmem:(i,ps)∈N.rules:=by
      rw[HP.out.rules,qd];refine⟨(nm,i),?_,?_⟩
      ·have e:pg.zipIdx[i]?=some (nm,i):=by rw[oz,Mf.out];simp
       exact mG e
      ·exact dm.2 ⟨ps,mG hps,rfl⟩
     have hlen:pre.length<N.rules.length:=by
      obtain⟨rest,Zi⟩:=LV pg Mf.out r;have h1:=congrArg List.length Zi;have h2:=congrArg List.length hpre.out;rw[<-HP.out.rules]at h1;simp only[lA,lM,lu]at h1 h2;have h3:=Jd.out;omega
     obtain⟨x,hx⟩:∃x:RI N Wb n₀,x.1=((i,ps),p):=⟨⟨((i,ps),p),hmem,Km⟩,rfl⟩;obtain⟨fn,tmps,assign,body,hy,hR⟩:=HY.out pre x wr hJs.out hlen;have De:Hid ((pre++ [x]).map (λx=>x.1.1)=IU pg i++(nm.2.take (r+1)).map λps=>(i,ps)):=hid (by
      obtain⟨hr2,e⟩:=zM.1 hps;rw[fq,hpre.out,iq hr2,e];simp[hx])
     have hy:(Instr.yield l #[ab (i:Int),p]).run Tryz.prog wr=.ok (.round l fn tmps assign body) wr:=by
      have h1:=hy;unfold XJ at h1;rw[hx]at h1;exact h1
     have HR:=hid hR;clear hR hx hlen hmem hps Dn hpre
     gi_wp2
     refine HR.out.mono ?_;rintro e W3 (⟨rfl,hJ3,hk3⟩ | ⟨rfl,abt⟩)
     ·have Zj:=hid hJ3
      have Ap:=hid (hbr.out.trans hk3);clear hJ3 hk3
      gi_wp2
      go_roundw
      case rel=>exact⟨r+1,pre++ [x],by omega,by go_num,De,Zj,Ap⟩
      case measure=>simp[intOf];omega
     ·gi_wp2
      refine ya (qz rfl _ _ _) rfl ?_;exact⟨⟨_,rfl⟩,.inr ⟨pre++ [x],trivial,abt⟩⟩
    ·have De:Hid (pre.map (λx=>x.1.1)=IU pg (i+1)):=hid (by
      rw[hpre.out,eB Mf.out,jk (by have:=Jd.out;omega)])
     gi_wp2
     go_roundw
     case rel=>exact⟨i+1,pre,by omega,by go_num,De,hJs,hbr⟩
     case measure=>simp[intOf];omega
  ·have De:Hid (pre.map (λx=>x.1.1)=N.rules):=hid (by
    rw[hpre.out,HP.out.rules,fO pg (by rw[HP.out.Tu];have:=H1.out;omega)])
   gi_wp2
   go_end0
   exact⟨⟨_,rfl⟩,.inl ⟨pre,De.out,hJs.out⟩⟩
end
theorem TO (F:Fence) (n:Nat) (hF:F.fn 130) (hro:F.round=none) (yZ:Option Addr) (nT yT gN nN yQ:Nat) (w:World):
  CallsIn F n Tryz.prog 130 #[.agg #[.slice yZ nT yT,ae gN nN yQ]] w λe w'=>e=.returned (.func (.func 183) #[] #[ac w.heap.size])/\
   w'=w.alloc (.cells #[.slice yZ nT yT,ae gN nN yQ] 135):=by
 refine uq Tryz.func130 rfl hF ?_ hro;simp only[Tryz.ntmps130,jf,lC,jd,Nat.reduceAdd,Nat.reduceSub,jm,jo,jy,jr,ey,iw]
 gi_wp2
 go_ret;exact⟨rfl,rfl⟩
theorem O8 (F:Fence) (n:Nat) (hF:F.fn 183) (hro:F.round=none) (hn:1<=n) (Bn n₀:Nat) (N:NG) (zy:List ByteArray) (pg:List Nm) (yZ:Option Addr) (yT gN yQ:Nat) (Wb w:World)
  (hP:Cz Wb n₀ N zy pg yZ yT gN yQ) (hbW:Below n₀ Wb w) (hn₀:n₀<=Wb.heap.size) (hB:Bn<w.heap.size) (Nk:w.cell? (af Bn 1)=some (ae gN N.nN yQ)):
  SeqStopsK F n Tryz.prog 183 #[ac Bn] (XJ (N:=N) (Wb:=Wb) (n₀:=n₀)) (Below n₀) (λys=>ys.map (λx=>x.1.1)=N.rules) (λ_=>True) N.rules.length w:=λl J Jx W hW hJ _ hY h0=>by
 have hb:Below n₀ Wb W:=hbW.trans (hW.mono (zV hn₀ hbW.size));refine(oK F n hF hro hn l Bn n₀ N zy pg yZ yT gN yQ Wb hP J Jx W hJ hb hn₀ hY ((hW.cell (p:=(af Bn 1)) hB).trans Nk) h0).mono ?_;rintro e W' ⟨h1,h2⟩;exact⟨h1,h2⟩
theorem Tryz.info216:(Tryz.prog.info? 216).map (λi=>(i.zero,i.size,i.bytes))=some (some (.agg #[ab 0,.bool false,.int .u32 0,.int .u32 0]),4,24):=by kernel_rfl
theorem ST (k:List Fa):(DX k).length=k.length*4:=by
 unfold DX
 induction k with
 |nil=>rfl
 |cons a r ih=>rw[ij,lA,ih];simp;omega
theorem fU {k:List Fa}{u:Value} (h:u∈DX k):u.oneCell'=true:=by
 unfold DX at h;rw[qd]at h;obtain⟨a,_,h⟩:=h;simp at h
 rcases h with rfl |rfl |rfl |rfl <;> rfl
theorem pS (w:World) (kb n:Nat) (k:List Fa) (hK:zY w kb n k) (hn:n<=20) (h0:0<n):
  Calls Tryz.prog 204 #[ae kb n n] w λe w'=>∃g cap,e=.returned (ae g n cap)/\w.heap.size<=g/\n<=cap/\(∀j,j<n*4->w'.cell? (af g j)=(DX k)[j]?)/\g<w'.heap.size/\Below w.heap.size w w':=by
 obtain⟨i0,hi,hz0,hz1,hz2⟩:=iy Tryz.info216;have qT:∀(w:World) (a:Option Addr) (n c n' c':Nat),(binOp .eql 136 (.slice a n c) (.slice none n' c')).run Tryz.prog w=.ok (.bool a.isNone) w:=λw a n c n' c'=>Lib.run_eql_slice_nil w _ _ a n c n' c' Tryz.underlying136
 have HK:Hid (zY w kb n k):=hid hK;clear hK
 go_enter Tryz.func204,Tryz.ntmps204
 have hkl:=HK.out.lt;have abu:(w.alloc (.cells #[] 216)).ownsRow w.heap.size 216 4 (ae w.heap.size 0 0) 0 []:=World.ownsRow_made w #[] 0 (zn _) Bg rfl;have hnews:∀(j:Nat) (u:Value),(DX k)[j]?=some u->(w.alloc (.cells #[] 216)).cell? (((af kb 0):Addr).add j)=some u:=λj u hu=>by
  have hj:=(zM.1 hu).1;rw[ST,HK.out.1]at hj;have h1:=HK.out.2.cellAt j hj;rw[hu]at h1;have h2:((af kb 0):Addr).add j=(af kb j):=by simp[Addr.add];exact λe=>e.symm
  rw[h2];exact(((ah w.heap.size w).alloc (zn _) _).cell (by exact hkl)).trans h1
 have ad6:=hid hnews;have abv:=hid abu;clear hnews abu
 go_wp2_with (first
  | (at_builtin;refine yD _ rfl _ _ 136 rfl w.heap.size 216 i0 (.agg #[.int .i64 0,.bool false,.int .u32 0,.int .u32 0]) 4 24 Tryz.underlying136 hi hz0 hz1 hz2 rfl (by decide) _ _ _ rfl abv.out ⟨kb,0,none⟩ n n (DX k) rfl (by rw[ST,HK.out.1]) ad6.out (λu hu=>fU hu) Bg (by omega) (by simp) ?_;intro v' w1 hown' hgrow _))
 rw[ju]at hown';obtain⟨g,cap,hv,Bw,hg2,hg3⟩:=B4 hown' h0;subst hv;have hcells:∀j,j<n*4->w1.cell? (af g j)=(DX k)[j]?:=λj hj=>hown'.cellAt j hj
 have HC:=hid hcells;have HB:Hid (Below w.heap.size w w1):=hid (((ah w.heap.size w).alloc (zn _) _).grown hgrow (by simp) (λq hq=>(abv.out.lt q hq).1));clear hcells hown' hgrow;go_wp2;go_ret;exact⟨g,cap,rfl,Bw,hg3,HC.out,hg2,HB.out⟩
theorem qZ (a b:Int) (c d:Bool) (e f g h:Int) (w:World):(binOp .neq 216 (.agg #[ab a,.bool c,.int .u32 e,.int .u32 g]) (.agg #[ab b,.bool d,.int .u32 f,.int .u32 h])).run Tryz.prog w=.ok (.bool (!(a==b&&(c==d&&(e==f&&g==h))))) w:=by
 have hS:Tryz.prog.underlying 216=some (.struct (Tryz.prog.fieldsOf 216)):=by kernel_rfl
 have hp:Tryz.prog.stoodInHeld 216=false:=by kernel_rfl
 have u3:=Tryz.underlying3;have u4:=Tryz.underlying4;have u5:=Tryz.underlying214;have a3:=Tryz.isAgg3;have z3:=Tryz.sizeOf3;have a4:=Tryz.isAgg4;have z4:=Tryz.sizeOf4;have a5:=Tryz.isAgg214;have z5:=Tryz.sizeOf214;rw[run_neq_struct,show(10000:Nat)=9999+1 from rfl,run_equalIn_agg w 9999 216 _ _ hS hp];simp only[Program.fieldsOf,Tryz.underlying216];go_simp
 by_cases h1:a=b <;> by_cases h2:c=d <;> by_cases h3:e=f <;> by_cases h4:g=h <;> simp[h1,h2,h3,h4]
theorem bI {k:List Fa}{a:Fa} (ha:k[j]?=some a):(DX k)[j*4]?=some (ab a.least)/\(DX k)[j*4+1]?=some (.bool a.reached)/\(DX k)[j*4+2]?=some (.int .u32 a.first)/\(DX k)[j*4+3]?=some (.int .u32 a.follow):=by
 have h4:=λj' hj=>QL (λa:Fa=>[ab a.least,.bool a.reached,.int .u32 a.first,.int .u32 a.follow]) (λ_=>rfl) k j a j' ha hj
 exact⟨h4 0 (by omega),h4 1 (by omega),h4 2 (by omega),h4 3 (by omega)⟩
theorem oA (w:World) (g1 g2 n c1 c2:Nat) (k1 k2:List Fa) (h1:k1.length=n) (h2:k2.length=n) (hn:n<=20) (hk1:∀j,j<n*4->w.cell? (af g1 j)=(DX k1)[j]?) (hk2:∀j,j<n*4->w.cell? (af g2 j)=(DX k2)[j]?):
  Calls Tryz.prog 205 #[ae g1 n c1,ae g2 n c2] w λe w'=>e=.returned (.bool (decide (k1=k2)))/\∃q,w'=w.drewN q:=by
 have Bt:=hid hk1;have Hj:=hid hk2;have HL:Hid (k1.length=n/\k2.length=n):=hid ⟨h1,h2⟩;clear hk1 hk2 h1 h2;have alm:=fun(a b:Int) (c d:Bool) (e f g h:Int) (w:World)=>qZ a b c d e f g h w
 go_enter Tryz.func205,Tryz.ntmps205
 go_wp2
 go_loopw [13] (λi wr=>∃j q:Nat,j<=n/\i=ab j/\wr=w.drewN q/\Hid (∀m,m<j->k1[m]?=k2[m]?)) (λi _=>n - (intOf i).toNat)
 case atStart=>exact⟨0,0,dh _,rfl,rfl,λj hj=>by omega⟩
 case round=>
  obtain⟨j,q,hj,rfl,rfl,hno⟩:=hrel
  by_cases hlt:j<n
  ·obtain⟨a,ha⟩:∃a,k1[j]?=some a:=⟨_,gE (by rw[HL.out.1];exact hlt)⟩
   obtain⟨b,hb⟩:∃b,k2[j]?=some b:=⟨_,gE (by rw[HL.out.2];exact hlt)⟩;obtain⟨a0,a1,a2,a3⟩:=bI ha;obtain⟨b0,b1,b2,b3⟩:=bI hb;have p0:=(Bt.out (j*4) (by omega)).trans a0;have p1:=(Bt.out (j*4+1) (by omega)).trans a1;have p2:=(Bt.out (j*4+2) (by omega)).trans a2;have p3:=(Bt.out (j*4+3) (by omega)).trans a3;have r0:=(Hj.out (j*4) (by omega)).trans b0;have r1:=(Hj.out (j*4+1) (by omega)).trans b1;have r2:=(Hj.out (j*4+2) (by omega)).trans b2;have r3:=(Hj.out (j*4+3) (by omega)).trans b3;have HA:Hid (k1[j]?=some a/\k2[j]?=some b):=hid ⟨ha,hb⟩;clear a0 a1 a2 a3 b0 b1 b2 b3 ha hb;cases he:((a.least:Int)==(b.least:Int)&&(a.reached==b.reached&&((a.first:Int)==(b.first:Int)&&(a.follow:Int)==(b.follow:Int))))
   ·have HE:Hid (decide (k1=k2)=false):=hid (gy λe=>by
     have h3:=HA.out.1;rw[e,HA.out.2]at h3;injection h3 with h3
     rw[h3]at he;simp at he)
    go_wp2
    go_quiet (fail)
    go_wp2;go_ret;exact⟨CQ HE.out,_,by first |rfl |exact wh ..⟩
   ·have HE:Hid (∀m,m<j+1->k1[m]?=k2[m]?):=hid (F8 hno.out (by
     rw[HA.out.1,HA.out.2];simp only[gz,kr]at he;obtain⟨e1,e2,e3,e4⟩:=he
     congr 1
     cases a;cases b;simp only at e1 e2 e3 e4;simp only[Fa.mk.injEq];exact⟨by omega,e2,by omega,by omega⟩))
    go_wp2
    go_quiet (fail)
    go_wp2
    go_roundw
    case rel=>exact⟨j+1,_,by omega,by go_num,by first |rfl |exact wh ..,HE⟩
    case measure=>simp[intOf];omega
  ·have HE:Hid (decide (k1=k2)=true):=hid (iz (by
    apply oo;intro m
    by_cases hm:m<n
    ·exact hno.out m (by omega)
    ·rw[eo (by rw[HL.out.1];omega),eo (by rw[HL.out.2];omega)]))
   go_wp2;go_ret;exact⟨CQ HE.out,_,rfl⟩
def VG (ops:Array Oper):Bool:=ops.toList.all λo=>match o.op with
 | .defer _=>false
 |_=>true
theorem rV  (h:VG ops=true) {i:Nat}{o:Oper} (ho:ops[i]?=some o):∀c,o.op≠ .defer c:=by
 intro c hc;have h1:=oh.1 h o (by
  rw[<-Array.getElem?_toList]at ho;exact mG ho)
 rw[hc]at h1;simp at h1
theorem jX {o:Oper}{a:Act}{K:Act->World->Prop}{r:Result Next} (h:o.upon P a K Q r):o.uponIn (Fence.wide.inRound l) n P a K Q r:=by
 cases r with
 |ok x w'=>
  cases x <;> simp only[Oper.upon]at h <;> simp only[Oper.uponIn]
  case value v=>exact h
  case skip=>exact h
  case defer d=>exact h
  case enter f args=>exact⟨λe=>by simp[Fence.inRound,Fence.wide]at e,yV l (nk.2 h)⟩
  case row row args=>
   refine⟨λe=>by simp[Fence.inRound,Fence.wide]at e,λc cs _=>?_⟩;obtain⟨v,w2,h1,h2⟩:=h c cs;exact⟨v,w2,h1,stepsIn_wide.2 h2⟩
 |halt x w'=>cases x <;> simp only[Oper.upon]at h <;> simp only[Oper.uponIn] <;> first |exact h |exact h.elim
theorem TD {md:Region.Mode} (hd:VG ops=true) (hQ:¬LetsOut Q):
  ∀(fuel:Nat) (listed:Array Bool) (a:Act) (w:World),wpAny P md ops Q fuel listed a w->wpAnyIn (Fence.wide.inRound l) n P md ops Q fuel listed a w:=by
 intro fuel
 induction fuel with
 |zero=>intro listed a w h;exact h
 |succ fuel ih=>
  intro listed a w h;refine⟨h.1,λi hi=>?_⟩;have h1:=h.2 i hi;unfold wpOp at h1;unfold wpOpIn;split
  ·rename_i e
   simp only[e]at h1;exact ih _ _ _ h1
  ·rename_i o e
   simp only[e]at h1;split
   ·rename_i hw
    rw[ay hw]at h1;have h2:=h1.resolve_right (λh3=>hQ h3.2);refine⟨λ_ _=>trivial,?_⟩;rw[show(Fence.wide.inRound l).round=some l from rfl,Oper.semAt_some l _ o (rV hd e)];exact jX (Oper.wp_mono (λa w=>ih _ a w) h2)
   ·rename_i hw
    rw[aq hw]at h1;exact⟨λ_ _=>trivial,ih _ _ _ h1⟩
theorem GL {id:Nat}{a:Act}{S:World->Prop} (hm:P.follows .mixedOrders=true) (hd:VG ops=true) (hQ:¬LetsOut Q) (hS:S w.drew)
  (h:S w.drew->wpAnyH P .any ops Q S ops.size (Array.replicate ops.size false) a w.drew):(Code.region id ops true).wpIn (Fence.wide.inRound l) n P Q a w:=
 wpIn_region_any hm (TD hd hQ _ _ _ _ (wpAny_of_held _ _ _ _ (h hS)))
end Go.Proofs.YtjjggdcnpndgjaaGreatDoor
