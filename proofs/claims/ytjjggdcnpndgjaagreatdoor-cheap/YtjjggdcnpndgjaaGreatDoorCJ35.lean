import Derived.Test.YtjjggdcnpndgjaaGreatDoorCJ34
set_option linter.unusedSimpArgs false
set_option maxHeartbeats 8000000
set_option maxRecDepth 100000
namespace Go.Proofs.YtjjggdcnpndgjaaGreatDoor
open Go.RowKit Go.Shelf
variable {i k t:Nat}{p:Pt}
section
theorem Aa.len {N:NG} (hN:N.Ok) {row:List Nat} (hr:∀x∈row,x<N.nT) {j:Nat}{E:List Ab}{b:List Nat}{c:Nat} (h:Aa N row i E j b c):E.length<=c:=by
 induction h with
 |done i=>exact zn _
 |keep _ _ ih=>exact ih
 |put ht _ ih=>have:=hN.Yz _ ht;simp only[lC];omega
 |drop hx _ ih=>have:=hN.abq _ (hr _ (mG hx));simp only[lC];omega
 |swap _ _ _ hs _ ih=>simp only[lC];omega
theorem ZI:∀{a:List (Option Pt)}{l:List Pt},Oj a=some l->∀p∈l,some p∈a
 | [],l,h,p,hp=>by cases h
 |none::a,l,h,p,hp=>by
  injection h with h
  subst h;cases hp
 |some q::a,l,h,p,hp=>by
  simp only[Oj]at h;cases h1:Oj a with
  |none=>rw[h1]at h;cases h
  |some l'=>
   rw[h1]at h;injection h with h
   subst h
   rcases bk.1 hp with e |e
   ·subst e;exact ew ..
   ·exact gj _ (ZI h1 p e)
theorem tG {zK:List (Option Pt)}{q:Nat}{l:List Pt} (h:BR zK q=some l)  (hp:p∈l):∃j:Nat,zK[j]?=some (some p):=
 List.mem_iff_getElem?.1 (yl (ZI h p hp))
structure Hf (Q:Aq) (W0:World) (cn ct:Nat->Nat->Nat->Wt):Prop where
 inn:Q.In W0
 pcs:MG Q W0 0 cn ct
 tlk:PF Q.zK
 zK:Rx Q.T.N (BR Q.zK) (FY Q.hds)
 gnf:Zt Q.T.N
section
variable {Q:Aq}{W0 W:World}{cn ct:Nat->Nat->Nat->Wt}
theorem Hf.Oo (h:Hf Q W0 cn ct) (hb:Below W0.heap.size W0 W):Q.In W:=h.inn.below (hb.mono (qp h.inn.Et))
theorem Hf.nm (h:Hf Q W0 cn ct) (hb:Below W0.heap.size W0 W)  (hik:i<=k) (hk:k<=Q.row.length):Jn Q W W0.heap.size i k (λn=>cn n i k):=((h.pcs.kn i k (dh _) hik hk).1.v).below hb h.inn.Et
theorem Hf.tlv (h:Hf Q W0 cn ct) (hb:Below W0.heap.size W0 W)  (hik:i<=k) (hk:k<=Q.row.length):Oh Q W W0.heap.size i k (λq=>ct q i k):=((h.pcs.kn i k (dh _) hik hk).2.v).below hb h.inn.Et
theorem Hf.wd (h:Hf Q W0 cn ct):∀i k,i<=k->k<=Q.row.length->ET Q.T.N (BR Q.zK) (FY Q.hds) Q.row cn ct i k:=λi k hik hk=>h.pcs.wd i k (dh _) hik hk
theorem Hf.pt (h:Hf Q W0 cn ct) {q:Nat}{l:List Pt} (hq:BR Q.zK q=some l)  (hp:p∈l):JQ Q.T.N p:=by
 obtain⟨j,hj⟩:=tG hq hp;exact h.inn.Xl j p hj
theorem Hf.pt2 (h:Hf Q W0 cn ct):∀q l,BR Q.zK q=some l->(∀t,Pt.tok t∈l->t<Q.T.N.nT)/\∀n,Pt.zi n∈l->n<Q.T.N.nN:=λ_ _ hq=>⟨λ_ ht=>h.pt hq ht,λ_ hn=>h.pt hq hn⟩
def lF (Q:Aq) (W0:World) (fn:Nat) (args:Nat->Array Value) (l:List Pt) (i k c:Nat):Prop:=∀(W:World) (sb:Nat) (v:Value) (E:List Ab),Below W0.heap.size W0 W->DT W sb W0.heap.size Q.wb v E->E.length+c<=3000000->
 Calls Tryz.prog fn (args sb) W λe w'=>e=.returned (.tuple #[])/\∃(v':Value) (F:List Ab) (b:List Nat),DT w' sb W0.heap.size Q.wb v' (E++F)/\(A5 W w' (sb::v.ownBlock.toList)/\BN W.heap.size v v')/\Aa Q.T.N Q.row i F k b c/\Bb Q.T.N l b
def VV (Q:Aq) (W0:World) (cn:Nat->Nat->Nat->Wt) (p:Pt) (i k:Nat):Prop:=lF Q W0 146 (λsb=> #[ac sb,.agg #[.bool (AW p),ab (AV p)],ab i,ab k]) [p] i k (D9 Q.T.N Q.row cn p i k).1
def aD (Q:Aq) (W0:World) (cn:Nat->Nat->Nat->Wt) (n i k:Nat):Prop:=lF Q W0 195 (λsb=> #[ac sb,ab n,ab i,ab k]) [.zi n] i k (cn n i k).1
def UM (Q:Aq) (W0:World) (ct:Nat->Nat->Nat->Wt) (q:Nat) (l:List Pt) (i k:Nat):Prop:=lF Q W0 223 (λsb=> #[ac sb,ab q,ab i,ab k]) l i k (ct q i k).1
theorem Below.acd {B:Nat}{W0 W W':World}{sb wb:Nat}{v:Value}{E:List Ab} (h:Below B W0 W) (hB:W0.heap.size=B) (hS:DT W sb B wb v E) (hk:A5 W W' (sb::v.ownBlock.toList)):Below B W0 W':=
 h.trans (hk.below (by have:=h.size;omega) (λq hq=>(hS.kind q hq).1))
theorem sG {N:NG}{row:List Nat}{x:Nat} (hx:row[i]?=some x) (ht:t<N.nT) (hk:FQ N x t<AJ):Aa N row i (LC N i x t) (i+1) [t] (FQ N x t):=by
 unfold LC;unfold FQ KB at hk ⊢
 by_cases e:x=t
 ·subst e
  simp only[ay,jq];exact .keep hx (.done _)
 ·rw[aq e]at hk ⊢
  by_cases e2:N.swp x t=0
  ·rw[ay e2]at hk;simp at hk
  ·rw[aq e2]at hk ⊢
   simp only[jq];rw[aq e2];have:=Aa.swap hx ht e e2 (Aa.done (N:=N) (row:=row) (i+1))
   rwa [qj]at this
end
end
section
section
variable {Q:Aq}{W0:World}{cn ct:Nat->Nat->Nat->Wt}
theorem T4 {n:Nat} (hC:aD Q W0 cn n i k):VV Q W0 cn (.zi n) i k:=by
 intro W sb v E hb hS hE;have hsw:sb<W.heap.size:=ak hS.blk;have HC:Hid (∀V,A5 W V []->Calls Tryz.prog 195 #[ac sb,ab n,ab i,ab k] V λe w'=>e=.returned (.tuple #[])/\∃(v':Value) (F:List Ab) (b:List Nat),DT w' sb W0.heap.size Q.wb v' (E++F)/\(A5 V w' (sb::v.ownBlock.toList)/\BN V.heap.size v v')/\Aa Q.T.N Q.row i F k b (cn n i k).1/\Bb Q.T.N [.zi n] b):=hid λV hk=>hC V sb v E (hb.trans (hk.below hb.size (λq h=>by cases h))) (hS.keeps hk (by simp) (λ_ _=>by simp)) hE
 have e:(D9 Q.T.N Q.row cn (.zi n) i k).1=(cn n i k).1:=rfl;rw[e];clear hC hb hS hE e
 go_enter Tryz.func146,Tryz.ntmps146
 have b0:=BK W #[.bool true,ab n] 235 0;have b1:=BK W #[.bool true,ab n] 235 1;have Bt:Hid (A5 W (W.alloc (.cells #[.bool true,ab n] 235)) []):=hid ((A5.refl W []).alloc _)
 go_wp2_with (go_at_call 195;refine(HC.out _ Bt.out).mono ?_;rintro e w2 ⟨rfl,h2⟩;have H2:=hid h2;clear h2)
 go_end0
 obtain⟨v',F,b,g1,⟨g2,g3⟩,g4,g5⟩:=H2.out;exact⟨rfl,v',F,b,g1,⟨(Bt.out.mono (λq h=>by cases h)).trans g2,(BN.refl _ v).trans g3 Bt.out.size⟩,g4,g5⟩
theorem eM (Ay:Hf Q W0 cn ct)  (ht:t<Q.T.N.nT):VV Q W0 cn (.tok t) i i:=by
 intro W sb v E hb hS hE;obtain⟨iE,Xw,aak,aal,aam⟩:=iy Tryz.infoB201;have hQ:=Ay.Oo hb;have e:(D9 Q.T.N Q.row cn (.tok t) i i).1=Q.T.N.put t:=by show(G9 Q.T.N Q.row t i i).1=_;unfold G9;rw[ay rfl]
 rw[e]at hE ⊢;clear e;have hsw:sb<W.heap.size:=ak hS.blk;have Cs:=hQ.At;have aa6:=hQ.Og;have hsB:=hS.sbB;have hgB:Q.gp<W0.heap.size:=Ay.inn.Et;have hBW:W0.heap.size<=W.heap.size:=hb.size;have htb:Q.T.tb<W0.heap.size:=by have:=Ay.inn.tab.bd.tb;exact this
 have e0:W.cell? (af Q.wb 0)=some (ac Q.T.tb):=(A0 hQ.blk).trans rfl;have s0:W.cell? (af sb 0)=some (ac Q.wb):=(A0 hS.blk).trans rfl;have s1:W.cell? (af sb 1)=some v:=(A0 hS.blk).trans rfl;obtain⟨d0,d1,_⟩:=hQ.tab.tv.Cq;obtain⟨gT,Je,Bu,_,c2⟩:=hQ.tab.fc.gr.toks t ht;have Bu:gT<W0.heap.size:=by have:=Ay.inn.tab.bd.n0;omega
 rw[Je]at d0;have Dx:=hQ.tab.fc.gr.Ch;obtain⟨nT,Ac⟩:=qF (Q.T.N.nT);obtain⟨nN,zT⟩:=qF (Q.T.N.nN);obtain⟨pt,Ca⟩:=qE (Q.T.N.put t);have aan:Hid (Aa Q.T.N Q.row i [⟨i,1,nT,t,pt⟩] i [t] pt):=hid (by
  have:=Aa.put (N:=Q.T.N) (row:=Q.row) ht (Aa.done i);rw[<-Ca,Ac]
  rwa [qj]at this)
 have hti:((t:Int)< (nT:Int)):=by omega
 rw[<-Ac]at d0 ht Dx;rw[<-zT]at d1;rw[Ca]at c2 hE ⊢;have Om:Hid (∀V,Calls Tryz.prog 115 #[.agg #[ae gT nT Q.T.yT,ae Q.T.gN nN Q.T.yQ]] V λe w'=>e=.returned (ab nT)/\Below V.heap.size V w'):=hid λV=>N2 V _ _ _ _ _ _
 obtain⟨kE,Jq⟩:=qE (E.length);rw[Jq]at hE;have hrow:W.ownsRow W0.heap.size 201 5 v kE (DW E):=by rw[<-Jq];exact hS.row
 have ogS:some sb≠v.ownBlock:=λe=>A9 hrow hS.blk (by decide) e.symm
 have ogW:some Q.wb≠v.ownBlock:=λe=>by have:=(hrow.lt _ e.symm).1;omega
 have Tp:some Q.T.tb≠v.ownBlock:=λe=>by have:=(hrow.lt _ e.symm).1;omega
 have ogt:some gT≠v.ownBlock:=λe=>by have:=(hrow.lt _ e.symm).1;omega
 have Xf:some W.heap.size≠v.ownBlock:=λe=>by have:=D8 hrow e.symm;omega
 have HS:=hid hS;have HKe:=hid Jq;have akj:gT<W.heap.size:=by omega
 clear hQ hb hS Ac zT Ca Je hrow Jq;show Calls Tryz.prog 146 #[ac sb,.agg #[.bool false,ab (t:Nat)],ab i,ab i] W _
 go_enter Tryz.func146,Tryz.ntmps146
 have b0:=BK W #[.bool false,ab t] 235 0;go_wp2;obtain⟨W1,hW1⟩:=qE (W.alloc (.cells #[.bool false,ab t] 235));have hk1:A5 W W1 []:=by rw[<-hW1];exact(A5.refl W []).alloc _
 have Dn:W1.heap[W.heap.size]?=some (.cells #[.bool false,ab t] 235 (0,0)):=by rw[<-hW1];exact bg W _
 rw[hW1];have hs1:W.heap.size<W1.heap.size:=ak Dn;have x1:W1.cell? (af W.heap.size 1)=some (ab t):=(A0 Dn).trans rfl;replace s0:=(hk1.cell (p:=(af sb 0)) (by exact hsw) (by simp)).trans s0;replace s1:=(hk1.cell (p:=(af sb 1)) (by exact hsw) (by simp)).trans s1;replace e0:=(hk1.cell (p:=(af Q.wb 0)) Iv (by simp)).trans e0;replace d0:=(hk1.cell (p:=(af Q.T.tb 0)) adQ (by simp)).trans d0;replace d1:=(hk1.cell (p:=(af Q.T.tb 1)) adQ (by simp)).trans d1;replace c2:=(hk1.cell (p:=(af gT (t*4+1))) (by exact akj) (by simp)).trans c2;have Bt:=hid hk1;clear hW1 hk1 Dn b0;refine AH (λw'=>(w'.cell? (af sb 0)=some (ac Q.wb)/\w'.cell? (af sb 1)=some v/\w'.cell? (af W.heap.size 1)=some (ab t))/\w'.cell? (af Q.wb 0)=some (ac Q.T.tb)/\w'.cell? (af Q.T.tb 0)=some (ae gT nT Q.T.yT)/\w'.cell? (af Q.T.tb 1)=some (ae Q.T.gN nN Q.T.yQ)/\w'.cell? (af gT (t*4+1))=some (ab pt)) hmx yM ⟨⟨s0,s1,x1⟩,e0,d0,d1,c2⟩ (λhH=>?_)
 simp only[AG,BP,AR];refine tB 0 hH ?_;refine tB 1 hH ?_;refine tB 2 hH ?_;refine tB 3 hH ?_;refine tB 4 hH ?_;refine tB 5 hH ?_;refine tB 6 hH ?_;refine tB 7 hH ?_;refine tB 8 hH ?_;refine tB 9 hH ?_;refine tB 10 hH ?_;refine tB 11 hH ?_;refine tB 12 hH ?_;refine tB 13 hH ?_;refine tB 14 hH ?_;refine tB 15 hH ?_;refine tB 16 hH ?_;refine tB 18 hH ?_;refine tB 19 hH ?_;refine tB 20 hH ?_;refine tB 21 hH ?_;refine tB 22 hH ?_;refine tB 23 hH ?_;refine tB 24 hH ?_;refine tB 25 hH ?_;refine tB 26 hH ?_;refine tB 27 hH ?_;refine tB 28 hH ?_;refine tB 29 hH ?_;refine tB 30 hH ?_;refine tB 31 hH ?_;refine tB 32 hH ?_;refine tB 33 hH ?_;refine tB 34 hH ?_;refine tB 35 hH ?_;refine tB 36 hH ?_;refine tL ?_;refine tS 17 λK hK=>?_
 refine tM ?_
 go_simp;refine(Om.out _).mono ?_;rintro e w5 ⟨rfl,hb4⟩;try dsimp only
 refine hK.out _ _ ?_ λhH=>?_
 ·exact⟨⟨A8 hb4 hH.1.1,A8 hb4 hH.1.2.1,A8 hb4 hH.1.2.2⟩,A8 hb4 hH.2.1,A8 hb4 hH.2.2.1,A8 hb4 hH.2.2.2.1,A8 hb4 hH.2.2.2.2⟩
 clear hK K;refine tL ?_;have Av:Hid (Below W1.heap.size W1 w5):=hid ((ah _ W1).drew.trans hb4);refine tB 37 hH ?_;refine tL ?_;refine tS 38 λK hK=>?_
 refine tM ?_;go_simp;refine hK.out _ _ ?_ λhH=>?_
 ·exact⟨⟨A6 _ hH.1.1,A6 _ hH.1.2.1,A6 _ hH.1.2.2⟩,A6 _ hH.2.1,A6 _ hH.2.2.1,A6 _ hH.2.2.2.1,A6 _ hH.2.2.2.2⟩
 clear hK K;refine tL ?_;have hs5:W1.heap.size<=w5.heap.size:=Av.out.size;have Hq:Hid (A5 W w5 []):=hid (Bt.out.trans (A5.zQ Av.out []));have Uv:Hid (DT w5 sb W0.heap.size Q.wb v E):=hid (HS.out.keeps Hq.out (by simp) (λ_ _=>by simp));have HR5:Hid (w5.ownsRow W0.heap.size 201 5 v kE (DW E)):=hid (by rw[<-HKe.out];exact Uv.out.row);refine tS 39 λK hK=>?_
 refine tM ?_;rw[ay (by rfl)];refine mq _ (.tmp 36) (.tmp 70) 198 rfl W0.heap.size 201 iE (.agg #[ab 0,ab 0,ab 0,ab 0,ab 0]) 5 40 Tryz.underlying198 Xw aak aal aam rfl (by decide) v _ _ rfl (HR5.out.alloc _) (af w5.heap.size 0) 1 1 [ab i,ab 1,ab nT,ab t,ab pt] rfl rfl (dn (fr:=(0,0)) (dz w5 _)) Gl (by omega) Bg (by omega) zG _ rfl ?_;intro g2 cap2 w7 hown hgrow hat Cu;refine hK.out _ _ ?_ λhH=>?_
 ·exact⟨⟨(hgrow.cell_far _ zG aaS).trans hH.1.1,(hgrow.cell_far _ zG aaS).trans hH.1.2.1,(hgrow.cell_far _ zG (by exact Xf)).trans hH.1.2.2⟩,(hgrow.cell_far _ zG Yp).trans hH.2.1,(hgrow.cell_far _ zG Oz).trans hH.2.2.1,(hgrow.cell_far _ zG Oz).trans hH.2.2.2.1,(hgrow.cell_far _ zG (by exact ogt)).trans hH.2.2.2.2⟩
 clear hK K;refine tL ?_;refine tB 40 hH ?_;refine tB 41 hH ?_;refine tB 42 hH ?_;refine tL ?_;refine bq yM ?_ _;clear hH hb4 s0 s1 e0 d0 d1 c2 x1;obtain⟨z1,z2,z3⟩:=Uv.out.add (e:=⟨i,1,nT,t,pt⟩) ((A5.refl w5 []).alloc _) hgrow (by rw[HKe.out];exact hown);have zc:w7.cell? (af sb 1)=some v:=(A0 z1).trans rfl;have zf:=A7 (j:=1) z1;have HZ:=hid (And.intro z2 z3);have ab9:Hid (BN w5.heap.size v (ae g2 (kE+1) cap2)):=hid (λg hg=>by
  obtain rfl:g2=g:=by simpa[Value.ownBlock] using hg
  rcases hat with h4 |h4
  ·exact .inl h4
  ·exact .inr aaM)
 clear z1 z2 z3 hown hgrow hat Cu;show wpList _ _ _ _ _ _;go_wp2;obtain⟨W5,Bj⟩:=qE (w7.setCell (af sb 1) (ae g2 (kE+1) cap2));rw[Bj]at HZ ⊢;clear Bj zc zf;go_wp2
 go_end0
 exact⟨rfl,_,_,[t],HZ.out.1,⟨(Hq.out.mono (λq h=>by cases h)).trans HZ.out.2,(BN.refl _ v).trans ab9.out (by omega)⟩,aan.out,.tok .nil⟩
theorem fH (Ay:Hf Q W0 cn ct) {m:Nat} (ht:t<Q.T.N.nT) (him:i<=m) (hm:m<Q.row.length) (hlt:(D9 Q.T.N Q.row cn (.tok t) i (m+1)).1<AJ):VV Q W0 cn (.tok t) i (m+1):=by
 intro W sb v E hb hS hE;have hQ:=Ay.Oo hb;obtain⟨x,hx⟩:∃x,Q.row[m]?=some x:=⟨_,gE hm⟩;have hx':Q.row.getD m 0=x:=by rw[Af,hx];rfl
 have e:(D9 Q.T.N Q.row cn (.tok t) i (m+1)).1=EH Q.T.N Q.row i m+FQ Q.T.N x t:=by
  show(G9 Q.T.N Q.row t i (m+1)).1=_;unfold G9;rw[aq (by omega),show m+1 - 1=m by omega,hx']
 rw[e]at hE hlt ⊢;have aan:Hid (Aa Q.T.N Q.row i (DY Q.T.N Q.row i (m - i)++LC Q.T.N m x t) (m+1) [t] (EH Q.T.N Q.row i m+FQ Q.T.N x t)):=hid (by
  have h1:=Aa.Ai (N:=Q.T.N) (row:=Q.row) (m - i) i (by omega);rw[show i+(m - i)=m by omega]at h1;have h2:=sG hx ht (show FQ Q.T.N x t<AJ by omega);have h3:=h1.append h2;rw[ey]at h3;exact h3)
 have Kh:=hQ.Gi;have hsw:sb<W.heap.size:=ak hS.blk;have hBW:W0.heap.size<=W.heap.size:=hb.size;have hgB:Q.gp<W0.heap.size:=Ay.inn.Et;obtain⟨W1,hW1⟩:=qE (W.alloc (.cells #[.bool false,ab t] 235));have hk1:A5 W W1 []:=by rw[<-hW1];exact(A5.refl W []).alloc _
 have Dn:W1.heap[W.heap.size]?=some (.cells #[.bool false,ab t] 235 (0,0)):=by rw[<-hW1];exact bg W _
 have hs1:W.heap.size<W1.heap.size:=ak Dn;have hb1:Below W0.heap.size W0 W1:=hb.trans (hk1.below hBW (λq h=>by cases h));have hS1:DT W1 sb W0.heap.size Q.wb v E:=hS.keeps hk1 (by simp) (λ_ _=>by simp);have HD:Hid (Calls Tryz.prog 147 #[ac sb,ab i,ab m] W1 λe w'=>e=.returned (.tuple #[])/\∃v',DT w' sb W0.heap.size Q.wb v' (E++DY Q.T.N Q.row i (m - i))/\A5 W1 w' (sb::v.ownBlock.toList)/\BN W1.heap.size v v'):=hid (RH (Ay.Oo hb1) hS1 hgB hb1.size him (by omega) (by omega));have hPv:v.ownBlock≠some W.heap.size:=λe=>by have:=D8 hS.row e;omega
 have HSw:Hid (∀V v1,Below W0.heap.size W0 V->DT V sb W0.heap.size Q.wb v1 (E++DY Q.T.N Q.row i (m - i))->Calls Tryz.prog 196 #[ac sb,ab m,ab t] V λe w'=>e=.returned (.tuple #[])/\∃v',DT w' sb W0.heap.size Q.wb v' (E++DY Q.T.N Q.row i (m - i)++LC Q.T.N m x t)/\A5 V w' (sb::v1.ownBlock.toList)/\BN V.heap.size v1 v'):=hid λV v1 Bf hSV=>eF (Ay.Oo Bf) hSV hgB Bf.size hx ht (by rw[lA,T8];omega)
 have zL:=hid hb1;have HS1:=hid hS1;have Bt:=hid hk1;have amo:m<=1000:=by omega
 have hne:((i:Int)==(m:Int)+1)=false:=by rw[mh];omega
 have hmw:IntKind.i64.wrap (m:Int)=(m:Int):=by rw[Db];omega
 have c0:W1.cell? (af W.heap.size 0)=some (.bool false):=(A0 Dn).trans rfl;have c1:W1.cell? (af W.heap.size 1)=some (ab t):=(A0 Dn).trans rfl;have Hs:=hid hW1;clear hQ hb hS hE hx hx' e hlt hk1 Dn hb1 hS1 Kh hW1;show Calls Tryz.prog 146 #[ac sb,.agg #[.bool false,ab (t:Nat)],ab i,ab ((m+1:Nat):Int)] W _
 go_enter Tryz.func146,Tryz.ntmps146
 have b0:=BK W #[.bool false,ab t] 235 0
 go_wp2_with fail
 rw[Hs.out]
 go_wp2_with (first
  | (go_at_call 147;refine HD.out.mono ?_;rintro e w2 ⟨rfl,v1,h2,h3,hf3⟩;have H2:=hid (And.intro h2 (And.intro h3 hf3));have c2:w2.cell? ⟨W.heap.size,1,none⟩=some (.int .i64 t):=(h3.cell Ts (by simp;exact⟨by omega,λe=>hPv e⟩)).trans c1;clear h2 h3 hf3)
  | (go_at_call 196;refine(HSw.out _ _ (Below.acd zL.out rfl HS1.out H2.out.2.1) H2.out.1).mono ?_;rintro e w3 ⟨rfl,v2,h4,h5,Lj⟩;have H3:=hid (And.intro h4 (And.intro h5 Lj));clear h4 h5 Lj))
 go_end0
 refine⟨rfl,_,_,[t],by rw[<-aA];exact H3.out.1,⟨(Bt.out.mono (λq h=>by cases h)).trans (H2.out.2.1.fresh H3.out.2.1 H2.out.2.2 (zn _)),(BN.refl _ v).trans (H2.out.2.2.trans H3.out.2.2 H2.out.2.1.size) (qp hs1)⟩,aan.out,.tok .nil⟩
theorem eU (Ay:Hf Q W0 cn ct)  (hp:JQ Q.T.N p) (hik:i<=k) (hk:k<=Q.row.length) (hlt:(D9 Q.T.N Q.row cn p i k).1<AJ) (hN:∀n,p=.zi n->aD Q W0 cn n i k):VV Q W0 cn p i k:=by
 cases p with
 |zi n=>exact T4 (hN n rfl)
 |tok t=>
  by_cases e:i=k
  ·subst e;exact eM Ay hp
  ·obtain⟨m,rfl⟩:∃m,k=m+1:=⟨k - 1,by omega⟩
   exact fH Ay hp (by omega) (by omega) hlt
end
end
section
section
variable {Q:Aq}{W0:World}{cn ct:Nat->Nat->Nat->Wt}
theorem T2 (Ay:Hf Q W0 cn ct) {n:Nat} (hn:n<Q.T.N.nN) (hik:i<=k) (hk:k<=Q.row.length) (hlt:(cn n i k).1<AJ) (hT:∀q l,FY Q.hds n q->BR Q.zK q=some l->cn n i k=named (ct q i k)->UM Q W0 ct q l i k):aD Q W0 cn n i k:=by
 intro W sb v E hb hS hE;have hQ:=Ay.Oo hb;have Kh:=hQ.Gi;have Dh:=hQ.Sw;have Bi:=hQ.tab.fc.gr.Dm;have hsw:sb<W.heap.size:=ak hS.blk;have hBW:W0.heap.size<=W.heap.size:=hb.size;have hgB:Q.gp<W0.heap.size:=Ay.inn.Et;have aa6:=hQ.Og;obtain⟨l,hl⟩:∃l,Q.hds[n]?=some l:=⟨_,gE (by rw[hQ.hl];exact hn)⟩;obtain⟨hv,chv,Cn⟩:=hQ.hdc n l hl;obtain⟨aeP,My⟩:=hQ.Lc n l hl;have hex:∃x∈l,(λx=>decide (named (ct x i k)=cn n i k)) x=true:=by
  rcases(Ay.wd i k hik hk).Py n hn with e | ⟨q,⟨l',h1,h2⟩,e⟩
  ·rw[e]at hlt;simp at hlt
  ·rw[hl]at h1
   injection h1 with h1
   subst h1;exact⟨q,h2,iz e.symm⟩
 have akk:Hid (∀x,x∈l->named (ct x i k)=cn n i k->∃rhs,(n,rhs)∈Q.T.N.rules/\UM Q W0 ct x rhs i k/\(ct x i k).1=(cn n i k).1):=hid λx hx e=>by
  obtain⟨rhs,h1,h2⟩:=Ay.zK.rule n x ⟨l,hl,hx⟩;refine⟨rhs,h2,hT x rhs ⟨l,hl,hx⟩ h1 e.symm,?_⟩;rw[<-e];simp[named,GO]
 obtain⟨gi,gn,akl,Xo,cgi,cgn,wgn⟩:=Ay.nm hb hik hk;obtain⟨Sy,gq,_,Kw,ace,cgq,wgq⟩:=Ay.tlv hb hik hk;have egi:Sy=gi:=by
  rw[cgi]at ace;injection ace with e
  injection e with e
  injection e with e
  injection e with e
  exact e.symm
 subst egi;obtain⟨kn1,kn2⟩:=wgn n hn;have s0:W.cell? (af sb 0)=some (ac Q.wb):=(A0 hS.blk).trans rfl;have e4:W.cell? (af Q.wb 4)=some (ae Q.gh Q.T.N.nN Q.ch):=(A0 hQ.blk).trans rfl;have e5:W.cell? (af Q.wb 5)=some (ae Q.gp (Q.row.length+1) (Q.row.length+1)):=(A0 hQ.blk).trans rfl;have akm:=hQ.chl;have aeO:=hQ.ghl;obtain⟨L1,Fh⟩:=qF (Q.row.length+1);obtain⟨nN,zT⟩:=qF (Q.T.N.nN);obtain⟨nQ,Fq⟩:=qF (Q.zK.length);have hiL:((i:Int)< (L1:Int)):=by omega
 have hkL:((k:Int)< (L1:Int)):=by omega
 have hni:((n:Int)< (nN:Int)):=by omega
 rw[<-Fh]at e5 cgi;rw[<-zT]at e4 cgn wgn hn Bi akm;rw[<-Fq]at cgq wgq Dh My;have hsm:Hu ct:=Ay.pcs.st;obtain⟨c1,hc1⟩:=qE ((cn n i k).1);obtain⟨c2,hc2⟩:=qE ((cn n i k).2);rw[hc1]at kn1;rw[hc2]at kn2;have Xy:Hid (cn n i k=(c1,c2)):=hid (xe hc1 hc2);clear hT hlt Fh zT Fq ace hQ hc1 hc2 hl
 go_enter Tryz.func195,Tryz.ntmps195
 have s0':(W.alloc (.cells #[ab n] 3)).cell? (af sb 0)=some (ac Q.wb):=A6 _ s0;have e5':(W.alloc (.cells #[ab n] 3)).cell? (af Q.wb 5)=some (ae Q.gp L1 L1):=A6 _ e5;have ace:(W.alloc (.cells #[ab n] 3)).cell? (af Q.gp i)=some (ae Sy L1 L1):=A6 _ cgi;have akn:(W.alloc (.cells #[ab n] 3)).cell? (af Sy (k*2))=some (ae gn nN nN):=A6 _ cgn;have ako:(W.alloc (.cells #[ab n] 3)).cell? (af Sy (k*2+1))=some (ae gq nQ nQ):=A6 _ cgq
 go_upto_region 2 with fail
 obtain⟨W2,hW2⟩:=qE ((W.alloc (.cells #[ab n] 3)).alloc (.cells #[ae gn nN nN,ae gq nQ nQ] 351));have hk2:A5 W W2 []:=by rw[<-hW2];exact((A5.refl W []).alloc _).alloc _
 have hn2:W2.heap[W.heap.size]?=some (.cells #[ab n] 3 (0,0)):=by rw[<-hW2];exact(dw _ _ _ (by simp)).trans (bg W _)
 have Km:W2.heap[W.heap.size+1]?=some (.cells #[ae gn nN nN,ae gq nQ nQ] 351 (0,0)):=by rw[<-hW2];exact PB W _ _ _ _
 have hs2:W.heap.size+1<W2.heap.size:=ak Km;rw[hW2];have hb2:Below W0.heap.size W0 W2:=hb.trans (hk2.below hBW (λq h=>by cases h));have Fv:DT W2 sb W0.heap.size Q.wb v E:=hS.keeps hk2 (by simp) (λ_ _=>by simp);have aa9:Em W2 Q.gp hv l:=Cn.below (hk2.below (by omega) (λq h=>by cases h));have Va:Q.gp<W2.heap.size:=by omega
 have e1:∀args V,(callFunc 221 args).run Tryz.prog V=.ok (.enter 221 args) V:=rq Tryz.func221 yM rfl;have aho:Hid (∀V,Below W2.heap.size W2 V->Calls Tryz.prog 220 #[hv,.func (.func 221) #[] #[ac (W.heap.size+1),ac W.heap.size]] V λe w'=>∃j x:Nat,e=.returned (ab j)/\l[j]?=some x/\decide (named (ct x i k)=cn n i k)=true/\Below V.heap.size V w'):=hid λV Bf=>by
  have hsV:=Bf.size;refine iY (p:=λx=>decide (named (ct x i k)=cn n i k)) (aa9.below (Bf.mono (by omega))) (by omega) (by omega) e1 (λV' x hx akp=>?_) hex;have Fj:Below W2.heap.size W2 V':=Bf.trans (akp.mono hsV);have hbW:Below W0.heap.size W0 V':=hb2.trans (Fj.mono (by omega));obtain⟨kq1,kq2⟩:=wgq x (My x hx);obtain⟨t1,Gq⟩:=qE ((ct x i k).1);obtain⟨t2,Jc⟩:=qE ((ct x i k).2);have hs:=hsm x i k;unfold AJ GH at hs;rw[Gq]at kq1 hs;rw[Jc]at kq2 hs;have adB:Below W.heap.size W V':=((A5.below hk2 (zn _) (λq h=>by cases h))).trans (Fj.mono (by omega));have h:=cZ (V:=V') (pb:=W.heap.size+1) (nb:=W.heap.size) (gn:=gn) (gq:=gq) (nN:=nN) (nQ:=nQ) (n:=n) (h:=x) (c1:=c1) (c2:=c2) (t1:=t1) (t2:=t2)
   ((Fj.cell (p:=(af (W.heap.size+1) 0)) Vr).trans ((A0 Km).trans rfl)) ((Fj.cell (p:=(af (W.heap.size+1) 1)) Vr).trans ((A0 Km).trans rfl)) ((Fj.cell (p:=(af W.heap.size 0)) (by show W.heap.size<W2.heap.size;omega)).trans ((A0 hn2).trans rfl))
   hn (My x hx) (by omega) Dh ((adB.cell (p:=(af gn (n*2))) (by show gn<W.heap.size;omega)).trans kn1) ((adB.cell (p:=(af gn (n*2+1))) (by show gn<W.heap.size;omega)).trans kn2) ((adB.cell (p:=(af gq (x*2))) acC).trans kq1) ((adB.cell (p:=(af gq (x*2+1))) acC).trans kq2) (by omega) hs.2
  rw[show ct x i k=(t1,t2) from xe Gq Jc,Xy.out];exact h
 obtain⟨ad,cap,rfl,hcap,hhc⟩:=aa9;have HHc:=hid hhc;obtain⟨nl,Ej⟩:=qF (l.length);rw[<-Ej]at aho hcap chv aeP;have HNl:=hid Ej;have t0:=(hk2.cell (p:=(af sb 0)) (by exact hsw) (by simp)).trans s0;have t4:=(hk2.cell (p:=(af Q.wb 4)) aaE (by simp)).trans e4;have th:=(hk2.cell (p:=(af Q.gh n)) (by show Q.gh<W.heap.size;omega) (by simp)).trans chv;have tn:W2.cell? (af W.heap.size 0)=some (ab n):=(A0 hn2).trans rfl;have zO:=hid hb2;have HS2:=hid Fv;have Hj:=hid hk2;have HOv:Hid (v.ownBlock≠some W.heap.size):=hid (λe=>by have:=D8 hS.row e;omega);clear hW2 hn2 Km hb2 Fv hk2 s0' e5' ace akn ako s0 e4 e5 cgi cgn cgq chv hex wgn wgq kn1 kn2 Cn hhc Ej hsm My hb hS Ay;refine dy (S:=λw'=>w'.cell? (af sb 0)=some (ac Q.wb)/\w'.cell? (af Q.wb 4)=some (ae Q.gh nN Q.ch)/\w'.cell? (af Q.gh n)=some (.slice ad nl cap)/\w'.cell? (af W.heap.size 0)=some (ab n)) yM ⟨t0,t4,th,tn⟩ (λhH=>?_)
 refine tB 0 hH ?_;refine tB 1 hH ?_;refine tB 2 hH ?_;refine tB 3 hH ?_;refine tB 4 hH ?_;refine tB 5 hH ?_;refine tB 6 hH ?_;refine tB 7 hH ?_;refine tB 8 hH ?_;refine tB 9 hH ?_;refine tB 10 hH ?_;refine tL ?_;refine tS 11 λK hK=>?_
 refine tM ?_
 go_simp;refine(aho.out _ (ah _ W2).drew).mono ?_;rintro e w4 ⟨j,x,rfl,hj,hx,hb4⟩;try dsimp only
 refine hK.out _ _ ?_ λhH=>?_
 ·exact⟨A8 hb4 hH.1,A8 hb4 hH.2.1,A8 hb4 hH.2.2.1,A8 hb4 hH.2.2.2⟩
 clear hK K;refine tB 12 hH ?_;refine tL ?_;refine bq yM ?_ _;have Oq:Below W2.heap.size W2 w4:=(ah _ W2).drew.trans hb4;have Fx:=Oq.size;have ahp:A5 W w4 []:=Hj.out.trans (A5.zQ Oq []);have Cx:DT w4 sb W0.heap.size Q.wb v E:=HS2.out.keeps (A5.zQ Oq []) (by simp) (λ_ _=>by simp);have hxl:x∈l:=mG hj;obtain⟨rhs,hr1,hr2,hr3⟩:=akk.out x hxl (kg hx);have hjn:j<nl:=by rw[HNl.out];exact(zM.1 hj).1
 have hjc:((j:Int)< (nl:Int)):=by omega
 obtain⟨g,off,rfl,Bu,Er⟩:=HHc.out (by have:=HNl.out;omega);have cx:w4.cell? (af g (off+j))=some (ab x):=(Oq.cell (p:=(af g (off+j))) (by show g<W2.heap.size;omega)).trans (Er j x hj);have aao:Below W0.heap.size W0 w4:=zO.out.trans (Oq.mono (by omega));have Xp:Hid (Calls Tryz.prog 223 #[ac sb,ab x,ab i,ab k] w4.drew λe w'=>e=.returned (.tuple #[])/\∃(v':Value) (F:List Ab) (b:List Nat),DT w' sb W0.heap.size Q.wb v' (E++F)/\(A5 w4.drew w' (sb::v.ownBlock.toList)/\BN w4.drew.heap.size v v')/\Aa Q.T.N Q.row i F k b (ct x i k).1/\Bb Q.T.N rhs b):=hid (hr2 w4.drew sb v E aao.drew ⟨Cx.blk,Cx.row,Cx.sbB⟩ (by rw[hr3];exact hE));obtain⟨q0,q4,qh,qn⟩:=hH;have HR:=hid (And.intro hr1 hr3);have Ke:=hid ahp;have ahq:W.heap.size∉sb::v.ownBlock.toList:=λhm=>by
  rcases bk.1 hm with e |e
  ·omega
  ·exact HOv.out Ee
 have hlow:∀q,q<W0.heap.size->q∉sb::v.ownBlock.toList:=λq hq hm=>by have:=(Cx.kind q hm).1;omega
 have afa:=hid hlow;have akq:=hid ahq;clear hj hx hxl hr1 hr2 hr3 Er ahp Cx aao Oq hb4 t0 t4 th tn hlow ahq
 go_upto_region 3 with fail
 refine dy (S:=λw'=>w'.cell? (af sb 0)=some (ac Q.wb)/\w'.cell? (af Q.wb 4)=some (ae Q.gh nN Q.ch)/\w'.cell? (af Q.gh n)=some (.slice (some (af g off)) nl cap)/\w'.cell? (af W.heap.size 0)=some (ab n)/\w'.cell? (af g (off+j))=some (ab x)) yM ⟨q0,q4,qh,qn,cx⟩ (λhH=>?_);refine tB 0 hH ?_;refine tB 1 hH ?_;refine tB 2 hH ?_;refine tB 3 hH ?_;refine tB 4 hH ?_;refine tB 5 hH ?_;refine tB 6 hH ?_;refine tB 7 hH ?_;refine tB 8 hH ?_;refine tB 9 hH ?_;refine tB 10 hH ?_;refine tB 11 hH ?_;refine tB 12 hH ?_;refine tB 13 hH ?_;refine tB 14 hH ?_;refine tB 15 hH ?_;refine tL ?_;refine tS 16 λK hK=>?_
 refine tM ?_
 go_simp;refine Xp.out.mono ?_;rintro e w5 ⟨rfl,v',F,b,g1,⟨g2,g3⟩,g4,g5⟩;try dsimp only
 refine hK.out _ _ ?_ λhH=>?_
 ·exact⟨(A0 g1.blk).trans rfl,(g2.cell aaD (afa.out _ (by show Q.wb<W0.heap.size;omega))).trans hH.2.1,(g2.cell (by show Q.gh<w4.heap.size;omega) (afa.out _ (by show Q.gh<W0.heap.size;omega))).trans hH.2.2.1,(g2.cell (by show W.heap.size<w4.heap.size;omega) akq.out).trans hH.2.2.2.1,(g2.cell (by show g<w4.heap.size;omega) (afa.out _ (by show g<W0.heap.size;omega))).trans hH.2.2.2.2⟩
 clear hK K;refine tL ?_;refine bq yM ?_ _;have H5:=hid (And.intro g1 (And.intro (And.intro g2 g3) (And.intro g4 g5)));clear hH g1 g2 g3 g4 g5;go_wp2
 go_end0
 obtain⟨g1,⟨g2,g3⟩,g4,g5⟩:=H5.out;obtain⟨hr1,hr3⟩:=HR.out;rw[hr3]at g4;refine⟨rfl,v',F,b,g1,⟨(Ke.out.mono (λq h=>by cases h)).trans (⟨g2.os,g2.tape,g2.output,g2.size,g2.block⟩:A5 w4 w5 _),(BN.refl _ v).trans g3 (by show W.heap.size<=w4.heap.size;omega)⟩,g4,?_⟩;have:=Bb.zi hr1 g5 .nil
 rwa [fy]at this
end
end
end Go.Proofs.YtjjggdcnpndgjaaGreatDoor
