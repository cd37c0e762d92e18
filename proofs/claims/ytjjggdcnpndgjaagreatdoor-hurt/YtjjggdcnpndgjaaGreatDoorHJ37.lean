import Derived.Test.YtjjggdcnpndgjaaGreatDoorHJ36
set_option linter.unusedSimpArgs false
set_option maxHeartbeats 8000000
set_option maxRecDepth 100000
namespace Go.Proofs.YtjjggdcnpndgjaaGreatDoor
open Go.RowKit Go.Shelf
variable {i k t:Nat}{p:Pt}
section
theorem za.len {N:NG} (hN:N.Ok) {row:List Nat} (hr:∀x∈row,x<N.nT) {j:Nat}{E:List ze}{b:List Nat}{c:Nat} (h:za N row i E j b c):E.length<=c:=by
 induction h with
 |done i=>exact yF _
 |keep _ _ ih=>exact ih
 |put ht _ ih=>have:=hN.Tm _ ht;simp only[lC];omega
 |drop hx _ ih=>have:=hN.aai _ (hr _ (mG hx));simp only[lC];omega
 |swap _ _ _ hs _ ih=>simp only[lC];omega
theorem X2:∀{a:List (Option Pt)}{l:List Pt},Ms a=some l->∀p∈l,some p∈a
 | [],l,h,p,hp=>by cases h
 |none::a,l,h,p,hp=>by
  injection h with h
  subst h;cases hp
 |some q::a,l,h,p,hp=>by
  simp only[Ms]at h;cases h1:Ms a with
  |none=>rw[h1]at h;cases h
  |some l'=>
   rw[h1]at h;injection h with h
   subst h
   rcases bh.1 hp with e |e
   ·subst e;exact eo ..
   ·exact fj _ (X2 h1 p e)
theorem rK {yQ:List (Option Pt)}{q:Nat}{l:List Pt} (h:BJ yQ q=some l)  (hp:p∈l):∃j:Nat,yQ[j]?=some (some p):=
 List.mem_iff_getElem?.1 (uh (X2 h p hp))
structure Ez (Q:zu) (W0:World) (cn ct:Nat->Nat->Nat->Wt):Prop where
 inn:Q.In W0
 pcs:M4 Q W0 0 cn ct
 tlk:PG Q.yQ
 yQ:Pz Q.T.N (BJ Q.yQ) (FJ Q.hds)
 gnf:Xb Q.T.N
section
variable {Q:zu}{W0 W:World}{cn ct:Nat->Nat->Nat->Wt}
theorem Ez.Mv (h:Ez Q W0 cn ct) (hb:Below W0.heap.size W0 W):Q.In W:=h.inn.below (hb.mono (qb h.inn.Dd))
theorem Ez.nm (h:Ez Q W0 cn ct) (hb:Below W0.heap.size W0 W)  (hik:i<=k) (hk:k<=Q.row.length):Gv Q W W0.heap.size i k (λn=>cn n i k):=((h.pcs.kn i k (bu _) hik hk).1.v).below hb h.inn.Dd
theorem Ez.tlv (h:Ez Q W0 cn ct) (hb:Below W0.heap.size W0 W)  (hik:i<=k) (hk:k<=Q.row.length):Mq Q W W0.heap.size i k (λq=>ct q i k):=((h.pcs.kn i k (bu _) hik hk).2.v).below hb h.inn.Dd
theorem Ez.wd (h:Ez Q W0 cn ct):∀i k,i<=k->k<=Q.row.length->EH Q.T.N (BJ Q.yQ) (FJ Q.hds) Q.row cn ct i k:=λi k hik hk=>h.pcs.wd i k (bu _) hik hk
theorem Ez.pt (h:Ez Q W0 cn ct) {q:Nat}{l:List Pt} (hq:BJ Q.yQ q=some l)  (hp:p∈l):J5 Q.T.N p:=by
 obtain⟨j,hj⟩:=rK hq hp;exact h.inn.Up j p hj
theorem Ez.pt2 (h:Ez Q W0 cn ct):∀q l,BJ Q.yQ q=some l->(∀t,Pt.tok t∈l->t<Q.T.N.nT)/\∀n,Pt.yB n∈l->n<Q.T.N.nN:=λ_ _ hq=>⟨λ_ ht=>h.pt hq ht,λ_ hn=>h.pt hq hn⟩
def jQ (Q:zu) (W0:World) (fn:Nat) (args:Nat->Array Value) (l:List Pt) (i k c:Nat):Prop:=∀(W:World) (sb:Nat) (v:Value) (E:List ze),Below W0.heap.size W0 W->DI W sb W0.heap.size Q.wb v E->E.length+c<=3000000->
 Calls Tryz.prog fn (args sb) W λe w'=>e=.returned (.tuple #[])/\∃(v':Value) (F:List ze) (b:List Nat),DI w' sb W0.heap.size Q.wb v' (E++F)/\(A1 W w' (sb::v.ownBlock.toList)/\BH W.heap.size v v')/\za Q.T.N Q.row i F k b c/\zP Q.T.N l b
def UJ (Q:zu) (W0:World) (cn:Nat->Nat->Nat->Wt) (p:Pt) (i k:Nat):Prop:=jQ Q W0 146 (λsb=> #[ac sb,.agg #[.bool (AQ p),ab (AP p)],ab i,ab k]) [p] i k (CZ Q.T.N Q.row cn p i k).1
def ZD (Q:zu) (W0:World) (cn:Nat->Nat->Nat->Wt) (n i k:Nat):Prop:=jQ Q W0 195 (λsb=> #[ac sb,ab n,ab i,ab k]) [.yB n] i k (cn n i k).1
def U7 (Q:zu) (W0:World) (ct:Nat->Nat->Nat->Wt) (q:Nat) (l:List Pt) (i k:Nat):Prop:=jQ Q W0 223 (λsb=> #[ac sb,ab q,ab i,ab k]) l i k (ct q i k).1
theorem Below.abu {B:Nat}{W0 W W':World}{sb wb:Nat}{v:Value}{E:List ze} (h:Below B W0 W) (hB:W0.heap.size=B) (hS:DI W sb B wb v E) (hk:A1 W W' (sb::v.ownBlock.toList)):Below B W0 W':=
 h.trans (hk.below (by have:=h.size;omega) (λq hq=>(hS.kind q hq).1))
theorem pQ {N:NG}{row:List Nat}{x:Nat} (hx:row[i]?=some x) (ht:t<N.nT) (hk:FH N x t<AC):za N row i (KR N i x t) (i+1) [t] (FH N x t):=by
 unfold KR;unfold FH JS at hk ⊢
 by_cases e:x=t
 ·subst e
  simp only[aq,jm];exact .keep hx (.done _)
 ·rw[au e]at hk ⊢
  by_cases e2:N.swp x t=0
  ·rw[aq e2]at hk;simp at hk
  ·rw[au e2]at hk ⊢
   simp only[jm];rw[au e2];have:=za.swap hx ht e e2 (za.done (N:=N) (row:=row) (i+1))
   rwa [ug]at this
end
end
section
section
variable {Q:zu}{W0:World}{cn ct:Nat->Nat->Nat->Wt}
theorem SX {n:Nat} (hC:ZD Q W0 cn n i k):UJ Q W0 cn (.yB n) i k:=by
 intro W sb v E hb hS hE;have hsw:sb<W.heap.size:=ak hS.blk;have HC:Hid (∀V,A1 W V []->Calls Tryz.prog 195 #[ac sb,ab n,ab i,ab k] V λe w'=>e=.returned (.tuple #[])/\∃(v':Value) (F:List ze) (b:List Nat),DI w' sb W0.heap.size Q.wb v' (E++F)/\(A1 V w' (sb::v.ownBlock.toList)/\BH V.heap.size v v')/\za Q.T.N Q.row i F k b (cn n i k).1/\zP Q.T.N [.yB n] b):=hid λV hk=>hC V sb v E (hb.trans (hk.below hb.size (λq h=>by cases h))) (hS.keeps hk (by simp) (λ_ _=>by simp)) hE
 have e:(CZ Q.T.N Q.row cn (.yB n) i k).1=(cn n i k).1:=rfl;rw[e];clear hC hb hS hE e
 go_enter Tryz.func146,Tryz.ntmps146
 have b0:=BF W #[.bool true,ab n] 235 0;have b1:=BF W #[.bool true,ab n] 235 1;have Aa:Hid (A1 W (W.alloc (.cells #[.bool true,ab n] 235)) []):=hid ((A1.refl W []).alloc _)
 go_wp2_with (go_at_call 195;refine(HC.out _ Aa.out).mono ?_;rintro e w2 ⟨rfl,h2⟩;have H2:=hid h2;clear h2)
 go_end0
 obtain⟨v',F,b,g1,⟨g2,g3⟩,g4,g5⟩:=H2.out;exact⟨rfl,v',F,b,g1,⟨(Aa.out.mono (λq h=>by cases h)).trans g2,(BH.refl _ v).trans g3 Aa.out.size⟩,g4,g5⟩
theorem eO (zL:Ez Q W0 cn ct)  (ht:t<Q.T.N.nT):UJ Q W0 cn (.tok t) i i:=by
 intro W sb v E hb hS hE;obtain⟨iE,Uz,Yq,Yr,Ys⟩:=jc Tryz.infoB201;have hQ:=zL.Mv hb;have e:(CZ Q.T.N Q.row cn (.tok t) i i).1=Q.T.N.put t:=by show(FR Q.T.N Q.row t i i).1=_;unfold FR;rw[aq rfl]
 rw[e]at hE ⊢;clear e;have hsw:sb<W.heap.size:=ak hS.blk;have Au:=hQ.zG;have aas:=hQ.Mp;have hsB:=hS.Yp;have hgB:Q.gp<W0.heap.size:=zL.inn.Dd;have hBW:W0.heap.size<=W.heap.size:=hb.size;have htb:Q.T.tb<W0.heap.size:=by have:=zL.inn.tab.bd.tb;exact this
 have e0:W.cell? (af Q.wb 0)=some (ac Q.T.tb):=(A0 hQ.blk).trans rfl;have s0:W.cell? (af sb 0)=some (ac Q.wb):=(A0 hS.blk).trans rfl;have s1:W.cell? (af sb 1)=some v:=(A0 hS.blk).trans rfl;obtain⟨d0,d1,_⟩:=hQ.tab.tv.Ar;obtain⟨gT,Gm,Bf,_,c2⟩:=hQ.tab.fc.gr.toks t ht;have Bf:gT<W0.heap.size:=by have:=zL.inn.tab.bd.n0;omega
 rw[Gm]at d0;have Cj:=hQ.tab.fc.gr.Aj;obtain⟨nT,zo⟩:=qF (Q.T.N.nT);obtain⟨nN,yY⟩:=qF (Q.T.N.nN);obtain⟨pt,Ae⟩:=qE (Q.T.N.put t);have Yu:Hid (za Q.T.N Q.row i [⟨i,1,nT,t,pt⟩] i [t] pt):=hid (by
  have:=za.put (N:=Q.T.N) (row:=Q.row) ht (za.done i);rw[<-Ae,zo]
  rwa [ug]at this)
 have hti:((t:Int)< (nT:Int)):=by omega
 rw[<-zo]at d0 ht Cj;rw[<-yY]at d1;rw[Ae]at c2 hE ⊢;have Oi:Hid (∀V,Calls Tryz.prog 115 #[.agg #[ae gT nT Q.T.yl,ae Q.T.gN nN Q.T.xY]] V λe w'=>e=.returned (ab nT)/\Below V.heap.size V w'):=hid λV=>MN V _ _ _ _ _ _
 obtain⟨kE,Gy⟩:=qE (E.length);rw[Gy]at hE;have hrow:W.ownsRow W0.heap.size 201 5 v kE (DM E):=by rw[<-Gy];exact hS.row
 have ogS:some sb≠v.ownBlock:=λe=>A5 hrow hS.blk (by decide) e.symm
 have ogW:some Q.wb≠v.ownBlock:=λe=>by have:=(hrow.lt _ e.symm).1;omega
 have Qz:some Q.T.tb≠v.ownBlock:=λe=>by have:=(hrow.lt _ e.symm).1;omega
 have ogt:some gT≠v.ownBlock:=λe=>by have:=(hrow.lt _ e.symm).1;omega
 have Uj:some W.heap.size≠v.ownBlock:=λe=>by have:=CJ hrow e.symm;omega
 have HS:=hid hS;have Yt:=hid Gy;have ajL:gT<W.heap.size:=by omega
 clear hQ hb hS zo yY Ae Gm hrow Gy;show Calls Tryz.prog 146 #[ac sb,.agg #[.bool false,ab (t:Nat)],ab i,ab i] W _
 go_enter Tryz.func146,Tryz.ntmps146
 have b0:=BF W #[.bool false,ab t] 235 0;go_wp2;obtain⟨W1,hW1⟩:=qE (W.alloc (.cells #[.bool false,ab t] 235));have hk1:A1 W W1 []:=by rw[<-hW1];exact(A1.refl W []).alloc _
 have Bu:W1.heap[W.heap.size]?=some (.cells #[.bool false,ab t] 235 (0,0)):=by rw[<-hW1];exact ay W _
 rw[hW1];have hs1:W.heap.size<W1.heap.size:=ak Bu;have x1:W1.cell? (af W.heap.size 1)=some (ab t):=(A0 Bu).trans rfl;replace s0:=(hk1.cell (p:=(af sb 0)) (by exact hsw) (by simp)).trans s0;replace s1:=(hk1.cell (p:=(af sb 1)) (by exact hsw) (by simp)).trans s1;replace e0:=(hk1.cell (p:=(af Q.wb 0)) Gd (by simp)).trans e0;replace d0:=(hk1.cell (p:=(af Q.T.tb 0)) acX (by simp)).trans d0;replace d1:=(hk1.cell (p:=(af Q.T.tb 1)) acX (by simp)).trans d1;replace c2:=(hk1.cell (p:=(af gT (t*4+1))) (by exact ajL) (by simp)).trans c2;have Aa:=hid hk1;clear hW1 hk1 Bu b0;refine AE (λw'=>(w'.cell? (af sb 0)=some (ac Q.wb)/\w'.cell? (af sb 1)=some v/\w'.cell? (af W.heap.size 1)=some (ab t))/\w'.cell? (af Q.wb 0)=some (ac Q.T.tb)/\w'.cell? (af Q.T.tb 0)=some (ae gT nT Q.T.yl)/\w'.cell? (af Q.T.tb 1)=some (ae Q.T.gN nN Q.T.xY)/\w'.cell? (af gT (t*4+1))=some (ab pt)) hmx yg ⟨⟨s0,s1,x1⟩,e0,d0,d1,c2⟩ (λhH=>?_)
 simp only[AB,BM,AO];refine tB 0 hH ?_;refine tB 1 hH ?_;refine tB 2 hH ?_;refine tB 3 hH ?_;refine tB 4 hH ?_;refine tB 5 hH ?_;refine tB 6 hH ?_;refine tB 7 hH ?_;refine tB 8 hH ?_;refine tB 9 hH ?_;refine tB 10 hH ?_;refine tB 11 hH ?_;refine tB 12 hH ?_;refine tB 13 hH ?_;refine tB 14 hH ?_;refine tB 15 hH ?_;refine tB 16 hH ?_;refine tB 18 hH ?_;refine tB 19 hH ?_;refine tB 20 hH ?_;refine tB 21 hH ?_;refine tB 22 hH ?_;refine tB 23 hH ?_;refine tB 24 hH ?_;refine tB 25 hH ?_;refine tB 26 hH ?_;refine tB 27 hH ?_;refine tB 28 hH ?_;refine tB 29 hH ?_;refine tB 30 hH ?_;refine tB 31 hH ?_;refine tB 32 hH ?_;refine tB 33 hH ?_;refine tB 34 hH ?_;refine tB 35 hH ?_;refine tB 36 hH ?_;refine tL ?_;refine tS 17 λK hK=>?_
 refine tM ?_
 go_simp;refine(Oi.out _).mono ?_;rintro e w5 ⟨rfl,hb4⟩;try dsimp only
 refine hK.out _ _ ?_ λhH=>?_
 ·exact⟨⟨A4 hb4 hH.1.1,A4 hb4 hH.1.2.1,A4 hb4 hH.1.2.2⟩,A4 hb4 hH.2.1,A4 hb4 hH.2.2.1,A4 hb4 hH.2.2.2.1,A4 hb4 hH.2.2.2.2⟩
 clear hK K;refine tL ?_;have zI:Hid (Below W1.heap.size W1 w5):=hid ((ah _ W1).drew.trans hb4);refine tB 37 hH ?_;refine tL ?_;refine tS 38 λK hK=>?_
 refine tM ?_;go_simp;refine hK.out _ _ ?_ λhH=>?_
 ·exact⟨⟨A2 _ hH.1.1,A2 _ hH.1.2.1,A2 _ hH.1.2.2⟩,A2 _ hH.2.1,A2 _ hH.2.2.1,A2 _ hH.2.2.2.1,A2 _ hH.2.2.2.2⟩
 clear hK K;refine tL ?_;have hs5:W1.heap.size<=w5.heap.size:=zI.out.size;have Fh:Hid (A1 W w5 []):=hid (Aa.out.trans (A1.yX zI.out []));have Si:Hid (DI w5 sb W0.heap.size Q.wb v E):=hid (HS.out.keeps Fh.out (by simp) (λ_ _=>by simp));have HR5:Hid (w5.ownsRow W0.heap.size 201 5 v kE (DM E)):=hid (by rw[<-Yt.out];exact Si.out.row);refine tS 39 λK hK=>?_
 refine tM ?_;rw[aq (by rfl)];refine mz _ (.tmp 36) (.tmp 70) 198 rfl W0.heap.size 201 iE (.agg #[ab 0,ab 0,ab 0,ab 0,ab 0]) 5 40 Tryz.underlying198 Uz Yq Yr Ys rfl (by decide) v _ _ rfl (HR5.out.alloc _) (af w5.heap.size 0) 1 1 [ab i,ab 1,ab nT,ab t,ab pt] rfl rfl (dh (fr:=(0,0)) (dw w5 _)) Fb (by omega) zX (by omega) yM _ rfl ?_;intro g2 cap2 w7 hown hgrow hat Bv;refine hK.out _ _ ?_ λhH=>?_
 ·exact⟨⟨(hgrow.cell_far _ yM aae).trans hH.1.1,(hgrow.cell_far _ yM aae).trans hH.1.2.1,(hgrow.cell_far _ yM (by exact Uj)).trans hH.1.2.2⟩,(hgrow.cell_far _ yM Vq).trans hH.2.1,(hgrow.cell_far _ yM Na).trans hH.2.2.1,(hgrow.cell_far _ yM Na).trans hH.2.2.2.1,(hgrow.cell_far _ yM (by exact ogt)).trans hH.2.2.2.2⟩
 clear hK K;refine tL ?_;refine tB 40 hH ?_;refine tB 41 hH ?_;refine tB 42 hH ?_;refine tL ?_;refine bk yg ?_ _;clear hH hb4 s0 s1 e0 d0 d1 c2 x1;obtain⟨z1,z2,z3⟩:=Si.out.add (e:=⟨i,1,nT,t,pt⟩) ((A1.refl w5 []).alloc _) hgrow (by rw[Yt.out];exact hown);have zc:w7.cell? (af sb 1)=some v:=(A0 z1).trans rfl;have zf:=A3 (j:=1) z1;have HZ:=hid (And.intro z2 z3);have abt:Hid (BH w5.heap.size v (ae g2 (kE+1) cap2)):=hid (λg hg=>by
  obtain rfl:g2=g:=by simpa[Value.ownBlock] using hg
  rcases hat with h4 |h4
  ·exact .inl h4
  ·exact .inr Zy)
 clear z1 z2 z3 hown hgrow hat Bv;show wpList _ _ _ _ _ _;go_wp2;obtain⟨W5,Dc⟩:=qE (w7.setCell (af sb 1) (ae g2 (kE+1) cap2));rw[Dc]at HZ ⊢;clear Dc zc zf;go_wp2
 go_end0
 exact⟨rfl,_,_,[t],HZ.out.1,⟨(Fh.out.mono (λq h=>by cases h)).trans HZ.out.2,(BH.refl _ v).trans abt.out (by omega)⟩,Yu.out,.tok .nil⟩
theorem eK (zL:Ez Q W0 cn ct) {m:Nat} (ht:t<Q.T.N.nT) (him:i<=m) (hm:m<Q.row.length) (hlt:(CZ Q.T.N Q.row cn (.tok t) i (m+1)).1<AC):UJ Q W0 cn (.tok t) i (m+1):=by
 intro W sb v E hb hS hE;have hQ:=zL.Mv hb;obtain⟨x,hx⟩:∃x,Q.row[m]?=some x:=⟨_,gE hm⟩;have hx':Q.row.getD m 0=x:=by rw[zh,hx];rfl
 have e:(CZ Q.T.N Q.row cn (.tok t) i (m+1)).1=E2 Q.T.N Q.row i m+FH Q.T.N x t:=by
  show(FR Q.T.N Q.row t i (m+1)).1=_;unfold FR;rw[au (by omega),show m+1 - 1=m by omega,hx']
 rw[e]at hE hlt ⊢;have Yu:Hid (za Q.T.N Q.row i (DP Q.T.N Q.row i (m - i)++KR Q.T.N m x t) (m+1) [t] (E2 Q.T.N Q.row i m+FH Q.T.N x t)):=hid (by
  have h1:=za.zk (N:=Q.T.N) (row:=Q.row) (m - i) i (by omega);rw[show i+(m - i)=m by omega]at h1;have h2:=pQ hx ht (show FH Q.T.N x t<AC by omega);have h3:=h1.append h2;rw[eu]at h3;exact h3)
 have Hu:=hQ.Em;have hsw:sb<W.heap.size:=ak hS.blk;have hBW:W0.heap.size<=W.heap.size:=hb.size;have hgB:Q.gp<W0.heap.size:=zL.inn.Dd;obtain⟨W1,hW1⟩:=qE (W.alloc (.cells #[.bool false,ab t] 235));have hk1:A1 W W1 []:=by rw[<-hW1];exact(A1.refl W []).alloc _
 have Bu:W1.heap[W.heap.size]?=some (.cells #[.bool false,ab t] 235 (0,0)):=by rw[<-hW1];exact ay W _
 have hs1:W.heap.size<W1.heap.size:=ak Bu;have hb1:Below W0.heap.size W0 W1:=hb.trans (hk1.below hBW (λq h=>by cases h));have hS1:DI W1 sb W0.heap.size Q.wb v E:=hS.keeps hk1 (by simp) (λ_ _=>by simp);have HD:Hid (Calls Tryz.prog 147 #[ac sb,ab i,ab m] W1 λe w'=>e=.returned (.tuple #[])/\∃v',DI w' sb W0.heap.size Q.wb v' (E++DP Q.T.N Q.row i (m - i))/\A1 W1 w' (sb::v.ownBlock.toList)/\BH W1.heap.size v v'):=hid (QK (zL.Mv hb1) hS1 hgB hb1.size him (by omega) (by omega));have hPv:v.ownBlock≠some W.heap.size:=λe=>by have:=CJ hS.row e;omega
 have HSw:Hid (∀V v1,Below W0.heap.size W0 V->DI V sb W0.heap.size Q.wb v1 (E++DP Q.T.N Q.row i (m - i))->Calls Tryz.prog 196 #[ac sb,ab m,ab t] V λe w'=>e=.returned (.tuple #[])/\∃v',DI w' sb W0.heap.size Q.wb v' (E++DP Q.T.N Q.row i (m - i)++KR Q.T.N m x t)/\A1 V w' (sb::v1.ownBlock.toList)/\BH V.heap.size v1 v'):=hid λV v1 zR hSV=>eE (zL.Mv zR) hSV hgB zR.size hx ht (by rw[lA,SG];omega)
 have yR:=hid hb1;have Yd:=hid hS1;have Aa:=hid hk1;have alN:m<=1000:=by omega
 have hne:((i:Int)==(m:Int)+1)=false:=by rw[jz];omega
 have hmw:IntKind.i64.wrap (m:Int)=(m:Int):=by rw[Cy];omega
 have c0:W1.cell? (af W.heap.size 0)=some (.bool false):=(A0 Bu).trans rfl;have c1:W1.cell? (af W.heap.size 1)=some (ab t):=(A0 Bu).trans rfl;have Fi:=hid hW1;clear hQ hb hS hE hx hx' e hlt hk1 Bu hb1 hS1 Hu hW1;show Calls Tryz.prog 146 #[ac sb,.agg #[.bool false,ab (t:Nat)],ab i,ab ((m+1:Nat):Int)] W _
 go_enter Tryz.func146,Tryz.ntmps146
 have b0:=BF W #[.bool false,ab t] 235 0
 go_wp2_with fail
 rw[Fi.out]
 go_wp2_with (first
  | (go_at_call 147;refine HD.out.mono ?_;rintro e w2 ⟨rfl,v1,h2,h3,hf3⟩;have H2:=hid (And.intro h2 (And.intro h3 hf3));have c2:w2.cell? ⟨W.heap.size,1,none⟩=some (.int .i64 t):=(h3.cell Rc (by simp;exact⟨by omega,λe=>hPv e⟩)).trans c1;clear h2 h3 hf3)
  | (go_at_call 196;refine(HSw.out _ _ (Below.abu yR.out rfl Yd.out H2.out.2.1) H2.out.1).mono ?_;rintro e w3 ⟨rfl,v2,h4,h5,Jo⟩;have H3:=hid (And.intro h4 (And.intro h5 Jo));clear h4 h5 Jo))
 go_end0
 refine⟨rfl,_,_,[t],by rw[<-aA];exact H3.out.1,⟨(Aa.out.mono (λq h=>by cases h)).trans (H2.out.2.1.fresh H3.out.2.1 H2.out.2.2 (yF _)),(BH.refl _ v).trans (H2.out.2.2.trans H3.out.2.2 H2.out.2.1.size) (qb hs1)⟩,Yu.out,.tok .nil⟩
theorem dK (zL:Ez Q W0 cn ct)  (hp:J5 Q.T.N p) (hik:i<=k) (hk:k<=Q.row.length) (hlt:(CZ Q.T.N Q.row cn p i k).1<AC) (hN:∀n,p=.yB n->ZD Q W0 cn n i k):UJ Q W0 cn p i k:=by
 cases p with
 |yB n=>exact SX (hN n rfl)
 |tok t=>
  by_cases e:i=k
  ·subst e;exact eO zL hp
  ·obtain⟨m,rfl⟩:∃m,k=m+1:=⟨k - 1,by omega⟩
   exact eK zL hp (by omega) (by omega) hlt
end
end
section
section
variable {Q:zu}{W0:World}{cn ct:Nat->Nat->Nat->Wt}
theorem SR (zL:Ez Q W0 cn ct) {n:Nat} (hn:n<Q.T.N.nN) (hik:i<=k) (hk:k<=Q.row.length) (hlt:(cn n i k).1<AC) (hT:∀q l,FJ Q.hds n q->BJ Q.yQ q=some l->cn n i k=named (ct q i k)->U7 Q W0 ct q l i k):ZD Q W0 cn n i k:=by
 intro W sb v E hb hS hE;have hQ:=zL.Mv hb;have Hu:=hQ.Em;have Bk:=hQ.Ql;have zU:=hQ.tab.fc.gr.Bt;have hsw:sb<W.heap.size:=ak hS.blk;have hBW:W0.heap.size<=W.heap.size:=hb.size;have hgB:Q.gp<W0.heap.size:=zL.inn.Dd;have aas:=hQ.Mp;obtain⟨l,hl⟩:∃l,Q.hds[n]?=some l:=⟨_,gE (by rw[hQ.hl];exact hn)⟩;obtain⟨hv,chv,Ai⟩:=hQ.hdc n l hl;obtain⟨ad0,Li⟩:=hQ.Jb n l hl;have hex:∃x∈l,(λx=>decide (named (ct x i k)=cn n i k)) x=true:=by
  rcases(zL.wd i k hik hk).Nv n hn with e | ⟨q,⟨l',h1,h2⟩,e⟩
  ·rw[e]at hlt;simp at hlt
  ·rw[hl]at h1
   injection h1 with h1
   subst h1;exact⟨q,h2,ij e.symm⟩
 have ajM:Hid (∀x,x∈l->named (ct x i k)=cn n i k->∃rhs,(n,rhs)∈Q.T.N.rules/\U7 Q W0 ct x rhs i k/\(ct x i k).1=(cn n i k).1):=hid λx hx e=>by
  obtain⟨rhs,h1,h2⟩:=zL.yQ.rule n x ⟨l,hl,hx⟩;refine⟨rhs,h2,hT x rhs ⟨l,hl,hx⟩ h1 e.symm,?_⟩;rw[<-e];simp[named,GD]
 obtain⟨gi,gn,ajN,Us,cgi,cgn,wgn⟩:=zL.nm hb hik hk;obtain⟨Qn,gq,_,Iw,abv,cgq,Yv⟩:=zL.tlv hb hik hk;have egi:Qn=gi:=by
  rw[cgi]at abv;injection abv with e
  injection e with e
  injection e with e
  injection e with e
  exact e.symm
 subst egi;obtain⟨kn1,kn2⟩:=wgn n hn;have s0:W.cell? (af sb 0)=some (ac Q.wb):=(A0 hS.blk).trans rfl;have e4:W.cell? (af Q.wb 4)=some (ae Q.gh Q.T.N.nN Q.ch):=(A0 hQ.blk).trans rfl;have e5:W.cell? (af Q.wb 5)=some (ae Q.gp (Q.row.length+1) (Q.row.length+1)):=(A0 hQ.blk).trans rfl;have ajO:=hQ.chl;have adZ:=hQ.ghl;obtain⟨L1,Cb⟩:=qF (Q.row.length+1);obtain⟨nN,yY⟩:=qF (Q.T.N.nN);obtain⟨nQ,Dw⟩:=qF (Q.yQ.length);have hiL:((i:Int)< (L1:Int)):=by omega
 have hkL:((k:Int)< (L1:Int)):=by omega
 have hni:((n:Int)< (nN:Int)):=by omega
 rw[<-Cb]at e5 cgi;rw[<-yY]at e4 cgn wgn hn zU ajO;rw[<-Dw]at cgq Yv Bk Li;have hsm:Fl ct:=zL.pcs.st;obtain⟨c1,hc1⟩:=qE ((cn n i k).1);obtain⟨c2,hc2⟩:=qE ((cn n i k).2);rw[hc1]at kn1;rw[hc2]at kn2;have Vb:Hid (cn n i k=(c1,c2)):=hid (vv hc1 hc2);clear hT hlt Cb yY Dw abv hQ hc1 hc2 hl
 go_enter Tryz.func195,Tryz.ntmps195
 have s0':(W.alloc (.cells #[ab n] 3)).cell? (af sb 0)=some (ac Q.wb):=A2 _ s0;have e5':(W.alloc (.cells #[ab n] 3)).cell? (af Q.wb 5)=some (ae Q.gp L1 L1):=A2 _ e5;have abv:(W.alloc (.cells #[ab n] 3)).cell? (af Q.gp i)=some (ae Qn L1 L1):=A2 _ cgi;have ajP:(W.alloc (.cells #[ab n] 3)).cell? (af Qn (k*2))=some (ae gn nN nN):=A2 _ cgn;have ajQ:(W.alloc (.cells #[ab n] 3)).cell? (af Qn (k*2+1))=some (ae gq nQ nQ):=A2 _ cgq
 go_upto_region 2 with fail
 obtain⟨W2,hW2⟩:=qE ((W.alloc (.cells #[ab n] 3)).alloc (.cells #[ae gn nN nN,ae gq nQ nQ] 351));have hk2:A1 W W2 []:=by rw[<-hW2];exact((A1.refl W []).alloc _).alloc _
 have hn2:W2.heap[W.heap.size]?=some (.cells #[ab n] 3 (0,0)):=by rw[<-hW2];exact(dm _ _ _ (by simp)).trans (ay W _)
 have Hy:W2.heap[W.heap.size+1]?=some (.cells #[ae gn nN nN,ae gq nQ nQ] 351 (0,0)):=by rw[<-hW2];exact P3 W _ _ _ _
 have hs2:W.heap.size+1<W2.heap.size:=ak Hy;rw[hW2];have hb2:Below W0.heap.size W0 W2:=hb.trans (hk2.below hBW (λq h=>by cases h));have hS2:DI W2 sb W0.heap.size Q.wb v E:=hS.keeps hk2 (by simp) (λ_ _=>by simp);have agN:Cw W2 Q.gp hv l:=Ai.below (hk2.below (by omega) (λq h=>by cases h));have Sr:Q.gp<W2.heap.size:=by omega
 have e1:∀args V,(callFunc 221 args).run Tryz.prog V=.ok (.enter 221 args) V:=qo Tryz.func221 yg rfl;have agO:Hid (∀V,Below W2.heap.size W2 V->Calls Tryz.prog 220 #[hv,.func (.func 221) #[] #[ac (W.heap.size+1),ac W.heap.size]] V λe w'=>∃j x:Nat,e=.returned (ab j)/\l[j]?=some x/\decide (named (ct x i k)=cn n i k)=true/\Below V.heap.size V w'):=hid λV zR=>by
  have hsV:=zR.size;refine j7 (p:=λx=>decide (named (ct x i k)=cn n i k)) (agN.below (zR.mono (by omega))) (by omega) (by omega) e1 (λV' x hx ajR=>?_) hex;have Dp:Below W2.heap.size W2 V':=zR.trans (ajR.mono hsV);have hbW:Below W0.heap.size W0 V':=hb2.trans (Dp.mono (by omega));obtain⟨kq1,kq2⟩:=Yv x (Li x hx);obtain⟨t1,Et⟩:=qE ((ct x i k).1);obtain⟨t2,Gj⟩:=qE ((ct x i k).2);have hs:=hsm x i k;unfold AC FZ at hs;rw[Et]at kq1 hs;rw[Gj]at kq2 hs;have acG:Below W.heap.size W V':=((A1.below hk2 (yF _) (λq h=>by cases h))).trans (Dp.mono (by omega));have h:=bP (V:=V') (pb:=W.heap.size+1) (nb:=W.heap.size) (gn:=gn) (gq:=gq) (nN:=nN) (nQ:=nQ) (n:=n) (h:=x) (c1:=c1) (c2:=c2) (t1:=t1) (t2:=t2)
   ((Dp.cell (p:=(af (W.heap.size+1) 0)) Th).trans ((A0 Hy).trans rfl)) ((Dp.cell (p:=(af (W.heap.size+1) 1)) Th).trans ((A0 Hy).trans rfl)) ((Dp.cell (p:=(af W.heap.size 0)) (by show W.heap.size<W2.heap.size;omega)).trans ((A0 hn2).trans rfl))
   hn (Li x hx) (by omega) Bk ((acG.cell (p:=(af gn (n*2))) (by show gn<W.heap.size;omega)).trans kn1) ((acG.cell (p:=(af gn (n*2+1))) (by show gn<W.heap.size;omega)).trans kn2) ((acG.cell (p:=(af gq (x*2))) abO).trans kq1) ((acG.cell (p:=(af gq (x*2+1))) abO).trans kq2) (by omega) hs.2
  rw[show ct x i k=(t1,t2) from vv Et Gj,Vb.out];exact h
 obtain⟨ad,cap,rfl,hcap,hhc⟩:=agN;have HHc:=hid hhc;obtain⟨nl,Ig⟩:=qF (l.length);rw[<-Ig]at agO hcap chv ad0;have HNl:=hid Ig;have t0:=(hk2.cell (p:=(af sb 0)) (by exact hsw) (by simp)).trans s0;have t4:=(hk2.cell (p:=(af Q.wb 4)) Zr (by simp)).trans e4;have th:=(hk2.cell (p:=(af Q.gh n)) (by show Q.gh<W.heap.size;omega) (by simp)).trans chv;have tn:W2.cell? (af W.heap.size 0)=some (ab n):=(A0 hn2).trans rfl;have yV:=hid hb2;have HS2:=hid hS2;have Fc:=hid hk2;have HOv:Hid (v.ownBlock≠some W.heap.size):=hid (λe=>by have:=CJ hS.row e;omega);clear hW2 hn2 Hy hb2 hS2 hk2 s0' e5' abv ajP ajQ s0 e4 e5 cgi cgn cgq chv hex wgn Yv kn1 kn2 Ai hhc Ig hsm Li hb hS zL;refine dn (S:=λw'=>w'.cell? (af sb 0)=some (ac Q.wb)/\w'.cell? (af Q.wb 4)=some (ae Q.gh nN Q.ch)/\w'.cell? (af Q.gh n)=some (.slice ad nl cap)/\w'.cell? (af W.heap.size 0)=some (ab n)) yg ⟨t0,t4,th,tn⟩ (λhH=>?_)
 refine tB 0 hH ?_;refine tB 1 hH ?_;refine tB 2 hH ?_;refine tB 3 hH ?_;refine tB 4 hH ?_;refine tB 5 hH ?_;refine tB 6 hH ?_;refine tB 7 hH ?_;refine tB 8 hH ?_;refine tB 9 hH ?_;refine tB 10 hH ?_;refine tL ?_;refine tS 11 λK hK=>?_
 refine tM ?_
 go_simp;refine(agO.out _ (ah _ W2).drew).mono ?_;rintro e w4 ⟨j,x,rfl,hj,hx,hb4⟩;try dsimp only
 refine hK.out _ _ ?_ λhH=>?_
 ·exact⟨A4 hb4 hH.1,A4 hb4 hH.2.1,A4 hb4 hH.2.2.1,A4 hb4 hH.2.2.2⟩
 clear hK K;refine tB 12 hH ?_;refine tL ?_;refine bk yg ?_ _;have Mw:Below W2.heap.size W2 w4:=(ah _ W2).drew.trans hb4;have Ea:=Mw.size;have agP:A1 W w4 []:=Fc.out.trans (A1.yX Mw []);have Js:DI w4 sb W0.heap.size Q.wb v E:=HS2.out.keeps (A1.yX Mw []) (by simp) (λ_ _=>by simp);have hxl:x∈l:=mG hj;obtain⟨rhs,hr1,hr2,hr3⟩:=ajM.out x hxl (kf hx);have hjn:j<nl:=by rw[HNl.out];exact(yS.1 hj).1
 have hjc:((j:Int)< (nl:Int)):=by omega
 obtain⟨g,off,rfl,Bf,Fj⟩:=HHc.out (by have:=HNl.out;omega);have cx:w4.cell? (af g (off+j))=some (ab x):=(Mw.cell (p:=(af g (off+j))) (by show g<W2.heap.size;omega)).trans (Fj j x hj);have Yw:Below W0.heap.size W0 w4:=yV.out.trans (Mw.mono (by omega));have Ut:Hid (Calls Tryz.prog 223 #[ac sb,ab x,ab i,ab k] w4.drew λe w'=>e=.returned (.tuple #[])/\∃(v':Value) (F:List ze) (b:List Nat),DI w' sb W0.heap.size Q.wb v' (E++F)/\(A1 w4.drew w' (sb::v.ownBlock.toList)/\BH w4.drew.heap.size v v')/\za Q.T.N Q.row i F k b (ct x i k).1/\zP Q.T.N rhs b):=hid (hr2 w4.drew sb v E Yw.drew ⟨Js.blk,Js.row,Js.Yp⟩ (by rw[hr3];exact hE));obtain⟨q0,q4,qh,qn⟩:=hH;have HR:=hid (And.intro hr1 hr3);have Ht:=hid agP;have agQ:W.heap.size∉sb::v.ownBlock.toList:=λhm=>by
  rcases bh.1 hm with e |e
  ·omega
  ·exact HOv.out Cp
 have hlow:∀q,q<W0.heap.size->q∉sb::v.ownBlock.toList:=λq hq hm=>by have:=(Js.kind q hm).1;omega
 have aeo:=hid hlow;have ajS:=hid agQ;clear hj hx hxl hr1 hr2 hr3 Fj agP Js Yw Mw hb4 t0 t4 th tn hlow agQ
 go_upto_region 3 with fail
 refine dn (S:=λw'=>w'.cell? (af sb 0)=some (ac Q.wb)/\w'.cell? (af Q.wb 4)=some (ae Q.gh nN Q.ch)/\w'.cell? (af Q.gh n)=some (.slice (some (af g off)) nl cap)/\w'.cell? (af W.heap.size 0)=some (ab n)/\w'.cell? (af g (off+j))=some (ab x)) yg ⟨q0,q4,qh,qn,cx⟩ (λhH=>?_);refine tB 0 hH ?_;refine tB 1 hH ?_;refine tB 2 hH ?_;refine tB 3 hH ?_;refine tB 4 hH ?_;refine tB 5 hH ?_;refine tB 6 hH ?_;refine tB 7 hH ?_;refine tB 8 hH ?_;refine tB 9 hH ?_;refine tB 10 hH ?_;refine tB 11 hH ?_;refine tB 12 hH ?_;refine tB 13 hH ?_;refine tB 14 hH ?_;refine tB 15 hH ?_;refine tL ?_;refine tS 16 λK hK=>?_
 refine tM ?_
 go_simp;refine Ut.out.mono ?_;rintro e w5 ⟨rfl,v',F,b,g1,⟨g2,g3⟩,g4,g5⟩;try dsimp only
 refine hK.out _ _ ?_ λhH=>?_
 ·exact⟨(A0 g1.blk).trans rfl,(g2.cell Zq (aeo.out _ (by show Q.wb<W0.heap.size;omega))).trans hH.2.1,(g2.cell (by show Q.gh<w4.heap.size;omega) (aeo.out _ (by show Q.gh<W0.heap.size;omega))).trans hH.2.2.1,(g2.cell (by show W.heap.size<w4.heap.size;omega) ajS.out).trans hH.2.2.2.1,(g2.cell (by show g<w4.heap.size;omega) (aeo.out _ (by show g<W0.heap.size;omega))).trans hH.2.2.2.2⟩
 clear hK K;refine tL ?_;refine bk yg ?_ _;have H5:=hid (And.intro g1 (And.intro (And.intro g2 g3) (And.intro g4 g5)));clear hH g1 g2 g3 g4 g5;go_wp2
 go_end0
 obtain⟨g1,⟨g2,g3⟩,g4,g5⟩:=H5.out;obtain⟨hr1,hr3⟩:=HR.out;rw[hr3]at g4;refine⟨rfl,v',F,b,g1,⟨(Ht.out.mono (λq h=>by cases h)).trans (⟨g2.os,g2.tape,g2.output,g2.size,g2.block⟩:A1 w4 w5 _),(BH.refl _ v).trans g3 (by show W.heap.size<=w4.heap.size;omega)⟩,g4,?_⟩;have:=zP.yB hr1 g5 .nil
 rwa [iq]at this
end
end
end Go.Proofs.YtjjggdcnpndgjaaGreatDoor
