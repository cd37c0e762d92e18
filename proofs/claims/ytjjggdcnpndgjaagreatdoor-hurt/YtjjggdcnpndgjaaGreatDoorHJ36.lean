import Derived.Test.YtjjggdcnpndgjaaGreatDoorHJ35
set_option linter.unusedSimpArgs false
set_option maxHeartbeats 8000000
set_option maxRecDepth 100000
namespace Go.Proofs.YtjjggdcnpndgjaaGreatDoor
open Go.RowKit Go.Shelf
variable {B sb:Nat}{E:List ze}{Q:zu}{v:Value}{w:World}
theorem d9 (N:NG) (row:List Nat) (i n x:Nat) (h:row[i+n]?=some x):DP N row i (n+1)=DP N row i n++ [⟨i+n,2,x,N.nT,N.drop x⟩]:=by
 unfold DP;rw[uj,ew,List.map_singleton,zh,h];rfl
theorem SG (N:NG) (row:List Nat) (i n:Nat):(DP N row i n).length=n:=by unfold DP;simp
theorem QK  (hQ:Q.In w) {i k:Nat} (hS:DI w sb B Q.wb v E) (hgB:Q.gp<B) (hBw:B<=w.heap.size) (hik:i<=k) (hk:k<=Q.row.length) (hE:E.length<=4000000):
  Calls Tryz.prog 147 #[ac sb,ab i,ab k] w λe w'=>e=.returned (.tuple #[])/\∃v',DI w' sb B Q.wb v' (E++DP Q.T.N Q.row i (k - i))/\A1 w w' (sb::v.ownBlock.toList)/\BH w.heap.size v v':=by
 obtain⟨iE,Uz,Yq,Yr,Ys⟩:=jc Tryz.infoB201;have Hu:=hQ.Em;have hsw:sb<w.heap.size:=ak hS.blk;have HQ:Hid (∀V,Below B w V->Q.In V):=hid λV hb=>hQ.below (hb.mono (by omega))
 have HS:Hid (DI w sb B Q.wb v E):=hid hS;have Au:=hQ.zG;have aas:=hQ.Mp;have hsB:=hS.Yp;obtain⟨L,hL⟩:=qF (Q.row.length);rw[<-hL]at hk Hu;have HL:=hid hL;clear hQ hS hL
 go_enter Tryz.func147,Tryz.ntmps147
 go_wp2
 go_loopw [6] (λz wr=>∃(m:Nat) (vr:Value),i<=m/\m<=k/\z=ab m/\Hid (DI wr sb B Q.wb vr (E++DP Q.T.N Q.row i (m - i)))/\Hid (A1 w wr (sb::v.ownBlock.toList))/\Hid (BH w.heap.size v vr)) (λz _=>k - (intOf z).toNat)
 case atStart=>exact⟨i,v,yF _,hik,rfl,hid (by rw[kq];simpa[DP] using HS.out),hid (A1.refl _ _),hid (BH.refl _ _)⟩
 case round=>
  obtain⟨m,vr,him,hmk,rfl,hsv,y7,hfr⟩:=hrel
  by_cases hlt:m<k
  ·have y6:Below B w wr:=y7.out.below (by omega) (λq hq=>(HS.out.kind q hq).1)
   have Dx:=HQ.out wr y6;obtain⟨x,hx⟩:∃x,Q.row[m]?=some x:=⟨_,gE Zv⟩;have Jm:=Dx.rl x (mG hx);obtain⟨aR,cR,Ai,Eb,hrc⟩:=Dx.Xy;rw[<-HL.out]at Ai Eb hrc;obtain⟨gR,off,rfl,Mh,Mi⟩:=hrc (by omega);have cx:=Mi m x hx;have e0:wr.cell? (af Q.wb 0)=some (ac Q.T.tb):=(A0 Dx.blk).trans rfl;have e1:wr.cell? (af Q.wb 1)=some (.slice (some (af gR off)) L cR):=by rw[<-Ai];exact(A0 Dx.blk).trans rfl
   have s0:wr.cell? (af sb 0)=some (ac Q.wb):=(A0 hsv.out.blk).trans rfl;have s1:wr.cell? (af sb 1)=some vr:=(A0 hsv.out.blk).trans rfl;obtain⟨d0,d1,_⟩:=Dx.tab.tv.Ar;obtain⟨nT,zo⟩:=qF (Q.T.N.nT);obtain⟨nN,yY⟩:=qF (Q.T.N.nN);have Oi:Hid (∀V,Calls Tryz.prog 115 #[.agg #[.slice Q.T.yu nT Q.T.yl,ae Q.T.gN nN Q.T.xY]] V λe w'=>e=.returned (ab nT)/\Below V.heap.size V w'):=hid λV=>MN V _ _ _ _ _ _
   obtain⟨hab,hdc⟩:=NH (N:=Q.T.N) Q.row (show m<=m+1 by omega);have hds:=JO Dx.tab.fc.gr.ok Dx.rl Dx.Em (m+1);have hdx:AU Q.T.N (Q.row.take (m+1)) - AU Q.T.N (Q.row.take m)=Q.T.N.drop x:=by rw[U5 hx];omega
   obtain⟨dx,aem⟩:=qE (Q.T.N.drop x);have Ke:Hid (∀V,Below wr.heap.size wr V->Calls Tryz.prog 194 #[ac Q.wb,ab m,ab ((m:Int)+1)] V λe w'=>e=.returned (ab dx)/\Below V.heap.size V w'):=hid λV hb=>by
    have hV:=HQ.out V (y6.trans (hb.mono (by have:=y6.size;omega)));have hLr:=HL.out;have h:=N4 V Q.wb Q.gd (Q.row.length+1) Q.cd m (m+1) _ _ ((A0 hV.blk).trans rfl) (by omega) (by omega) (by omega) (hV.Sq m (by omega)) (hV.Sq (m+1) (by omega)) hab (by omega);rw[hdx,aem]at h;exact h
   have hE2:E.length+(m - i)<=4000100:=by omega
   obtain⟨E1,Xm⟩:=qE (E++DP Q.T.N Q.row i (m - i));have hEn:E++DP Q.T.N Q.row i (m+1 - i)=E1++ [⟨m,2,x,nT,dx⟩]:=by
    rw[show m+1 - i=(m - i)+1 by omega,d9 _ _ _ _ x (by rw[show i+(m - i)=m by omega];exact hx),<-aA,Xm,aem,zo,show i+(m - i)=m by omega]
   have hEl:E1.length=E.length+(m - i):=by rw[<-Xm,lA,SG]
   rw[Xm]at hsv;obtain⟨kE,Gy⟩:=qE (E1.length);have alK:kE<=4000100:=by omega
   have hrow:wr.ownsRow B 201 5 vr kE (DM E1):=by rw[<-Gy];exact hsv.out.row
   have ogS:some sb≠vr.ownBlock:=λe=>A5 hrow hsv.out.blk (by decide) e.symm
   have ogW:some Q.wb≠vr.ownBlock:=λe=>by have:=(hrow.lt _ e.symm).1;omega
   have ogR:some gR≠vr.ownBlock:=λe=>by have:=(hrow.lt _ e.symm).1;omega
   have hwr:=y7.out.size;rw[<-zo]at d0;rw[<-yY]at d1;have Qz:some Q.T.tb≠vr.ownBlock:=λe=>by have:=(hrow.lt _ e.symm).1;have:=Dx.bd.tb;omega
   have hmw:IntKind.i64.wrap ((m:Int)+1)=(m:Int)+1:=by rw[Cy];omega
   have hml:((m:Int)< (L:Int)):=by omega
   have Da:=hid hrow;have HEn:=hid hEn;have En:=hid hsv.out;have Yt:=hid Gy;have Qb:=y7;have HFr:=hfr;have HQr:=hid Dx;have abk:Q.T.tb<wr.heap.size:=by have:=Dx.bd.tb;omega
   have ajI:gR<wr.heap.size:=by omega
   clear hsv y7 hfr hrow hEn Gy hEl Xm hE2 hdx aem hdc hab hds Mi hrc Ai hx Jm Dx y6 zo yY Eb
   go_upto_region 3 with fail
   refine AE (λw'=>(w'.cell? (af sb 0)=some (ac Q.wb)/\w'.cell? (af sb 1)=some vr/\w'.cell? (af Q.wb 0)=some (ac Q.T.tb)/\w'.cell? (af Q.wb 1)=some (.slice (some (af gR off)) L cR))/\w'.cell? (af gR (off+m))=some (ab x)/\w'.cell? (af Q.T.tb 0)=some (.slice Q.T.yu nT Q.T.yl)/\w'.cell? (af Q.T.tb 1)=some (ae Q.T.gN nN Q.T.xY)) hmx yg ⟨⟨s0,s1,e0,e1⟩,cx,d0,d1⟩ (λhH=>?_);simp only[AB,BM,AO];refine tB 0 hH ?_;refine tB 1 hH ?_;refine tB 2 hH ?_;refine tB 3 hH ?_;refine tB 4 hH ?_;refine tB 5 hH ?_;refine tB 6 hH ?_;refine tB 7 hH ?_;refine tB 8 hH ?_;refine tB 9 hH ?_;refine tB 10 hH ?_;refine tB 11 hH ?_;refine tB 12 hH ?_;refine tB 13 hH ?_;refine tB 14 hH ?_;refine tB 15 hH ?_;refine tB 16 hH ?_;refine tB 17 hH ?_;refine tB 18 hH ?_;refine tB 19 hH ?_;refine tB 20 hH ?_;refine tB 21 hH ?_;refine tB 22 hH ?_;refine tB 23 hH ?_;refine tB 24 hH ?_;refine tB 25 hH ?_;refine tB 26 hH ?_
   refine tB 28 hH ?_;refine tB 29 hH ?_;refine tB 30 hH ?_;refine tB 31 hH ?_;refine tB 32 hH ?_;refine tB 33 hH ?_;refine tB 34 hH ?_;refine tL ?_;refine tS 27 λK hK=>?_
   refine tM ?_
   go_simp;refine(Oi.out _).mono ?_;rintro e w4 ⟨rfl,hb4⟩;try dsimp only
   refine hK.out _ _ ?_ λhH=>?_
   ·exact⟨⟨A4 hb4 hH.1.1,A4 hb4 hH.1.2.1,A4 hb4 hH.1.2.2.1,A4 hb4 hH.1.2.2.2⟩,A4 hb4 hH.2.1,A4 hb4 hH.2.2.1,A4 hb4 hH.2.2.2⟩
   clear hK K;refine tL ?_;have zV:Hid (Below wr.heap.size wr w4):=hid ((ah _ wr).drew.trans hb4);refine tS 35 λK hK=>?_
   refine tM ?_
   go_simp;refine(Ke.out _ zV.out).mono ?_;rintro e w5 ⟨rfl,yT⟩;try dsimp only
   refine hK.out _ _ ?_ λhH=>?_
   ·exact⟨⟨A4 yT hH.1.1,A4 yT hH.1.2.1,A4 yT hH.1.2.2.1,A4 yT hH.1.2.2.2⟩,A4 yT hH.2.1,A4 yT hH.2.2.1,A4 yT hH.2.2.2⟩
   clear hK K;refine tL ?_;have zI:Hid (Below wr.heap.size wr w5):=hid (zV.out.trans (yT.mono zV.out.size));refine tB 36 hH ?_;refine tL ?_;refine tS 37 λK hK=>?_
   refine tM ?_;go_simp;refine hK.out _ _ ?_ λhH=>?_
   ·exact⟨⟨A2 _ hH.1.1,A2 _ hH.1.2.1,A2 _ hH.1.2.2.1,A2 _ hH.1.2.2.2⟩,A2 _ hH.2.1,A2 _ hH.2.2.1,A2 _ hH.2.2.2⟩
   clear hK K;refine tL ?_;have hs5:wr.heap.size<=w5.heap.size:=zI.out.size;have Si:Hid (DI w5 sb B Q.wb vr E1):=hid (En.out.keeps (A1.yX zI.out []) (by simp) (λ_ _=>by simp));have HR5:Hid (w5.ownsRow B 201 5 vr kE (DM E1)):=hid (by rw[<-Yt.out];exact Si.out.row);refine tS 38 λK hK=>?_
   refine tM ?_;rw[aq (by rfl)];refine mz _ (.tmp 17) (.tmp 50) 198 rfl B 201 iE (.agg #[ab 0,ab 0,ab 0,ab 0,ab 0]) 5 40 Tryz.underlying198 Uz Yq Yr Ys rfl (by decide) vr _ _ rfl (HR5.out.alloc _) (af w5.heap.size 0) 1 1 [ab m,ab 2,ab x,ab nT,ab dx] rfl rfl (dh (fr:=(0,0)) (dw w5 _)) Fb (by omega) zX (by omega) yM _ rfl ?_;intro g2 cap2 w7 hown hgrow hat Bv;refine hK.out _ _ ?_ λhH=>?_
   ·exact⟨⟨(hgrow.cell_far _ yM aae).trans hH.1.1,(hgrow.cell_far _ yM aae).trans hH.1.2.1,(hgrow.cell_far _ yM Vq).trans hH.1.2.2.1,(hgrow.cell_far _ yM Vq).trans hH.1.2.2.2⟩,(hgrow.cell_far _ yM (by exact ogR)).trans hH.2.1,(hgrow.cell_far _ yM Na).trans hH.2.2.1,(hgrow.cell_far _ yM Na).trans hH.2.2.2⟩
   clear hK K;refine tL ?_;refine tB 39 hH ?_;refine tB 40 hH ?_;refine tB 41 hH ?_;refine tL ?_;refine bk yg ?_ _;clear hH hb4 yT s0 s1 e0 e1 cx d0 d1;obtain⟨z1,z2,z3⟩:=Si.out.add (e:=⟨m,2,x,nT,dx⟩) ((A1.refl w5 []).alloc _) hgrow (by rw[Yt.out];exact hown);have zc:w7.cell? (af sb 1)=some vr:=(A0 z1).trans rfl;have zf:=A3 (j:=1) z1;have HZ:=hid (And.intro z2 z3);have abt:Hid (BH w5.heap.size vr (ae g2 (kE+1) cap2)):=hid (λg hg=>by
    obtain rfl:g2=g:=by simpa[Value.ownBlock] using hg
    rcases hat with h4 |h4
    ·exact .inl h4
    ·exact .inr Zy)
   clear z1 z2 z3 hown hgrow hat Bv;show wpList _ _ _ _ _ _;go_wp2;obtain⟨W5,Dc⟩:=qE (w7.setCell (af sb 1) (ae g2 (kE+1) cap2));rw[Dc]at HZ ⊢;clear Dc zc zf;go_wp2
   go_roundw
   case rel=>exact⟨m+1,_,by omega,by omega,by go_num,hid (by rw[HEn.out];exact HZ.out.1),hid (Qb.out.fresh (((A1.yX zI.out []).mono (λq h=>by cases h)).trans HZ.out.2) HFr.out (yF _)),hid (HFr.out.trans abt.out (by omega))⟩
   case measure=>simp[intOf];omega
  ·have hme:m=k:=by omega
   have En:Hid (DI wr sb B Q.wb vr (E++DP Q.T.N Q.row i (k - i))):=hid (by rw[<-hme];exact hsv.out);clear hsv hme;go_wp2
   go_end0
   exact⟨rfl,_,En.out,y7.out,hfr.out⟩
def KR (N:NG) (i x u:Nat):List ze:=if FH N x u=0 then []else [⟨i,3,x,u,FH N x u⟩]
theorem eE  (hQ:Q.In w) {i u x:Nat} (hS:DI w sb B Q.wb v E) (hgB:Q.gp<B) (hBw:B<=w.heap.size) (hx:Q.row[i]?=some x) (hu:u<Q.T.N.nT) (hE:E.length<=4000200):
  Calls Tryz.prog 196 #[ac sb,ab i,ab u] w λe w'=>e=.returned (.tuple #[])/\∃v',DI w' sb B Q.wb v' (E++KR Q.T.N i x u)/\A1 w w' (sb::v.ownBlock.toList)/\BH w.heap.size v v':=by
 obtain⟨iE,Uz,Yq,Yr,Ys⟩:=jc Tryz.infoB201;have Hu:=hQ.Em;have Jm:=hQ.rl x (mG hx);have hiL:i<Q.row.length:=(yS.1 hx).1;have hsw:sb<w.heap.size:=ak hS.blk;have Au:=hQ.zG;have aas:=hQ.Mp;have hsB:=hS.Yp;obtain⟨aR,cR,Ai,Eb,hrc⟩:=hQ.Xy;obtain⟨gR,off,rfl,Mh,Mi⟩:=hrc (by omega);have cx:=Mi i x hx;have e0:w.cell? (af Q.wb 0)=some (ac Q.T.tb):=(A0 hQ.blk).trans rfl;have e1:w.cell? (af Q.wb 1)=some (.slice (some (af gR off)) Q.row.length cR):=by rw[<-Ai];exact(A0 hQ.blk).trans rfl
 have s0:w.cell? (af sb 0)=some (ac Q.wb):=(A0 hS.blk).trans rfl;obtain⟨L,hL⟩:=qF (Q.row.length);rw[<-hL]at e1 Eb hiL Hu;have HQ:Hid (∀V,Below w.heap.size w V->Q.In V):=hid λV hb=>hQ.below (hb.mono (by omega))
 obtain⟨kc,hkc⟩:=qE (FH Q.T.N x u);have HK:Hid (∀V,Below w.heap.size w V->Calls Tryz.prog 219 #[ac Q.wb,ab x,ab u] V λe w'=>e=.returned (ab kc)/\Below V.heap.size V w'):=hid λV hb=>by
  have hV:=HQ.out V hb;have h:=QH hV.tab.fc.gr hV.tab.fc.ln hV.tab.tv ((A0 hV.blk).trans rfl) x u Jm hu;rw[hkc]at h;exact h
 have HE:Hid (KR Q.T.N i x u=if kc=0 then []else [⟨i,3,x,u,kc⟩]):=hid (by unfold KR;rw[hkc]);have HS:Hid (DI w sb B Q.wb v E):=hid hS;have ajI:gR<w.heap.size:=by omega
 clear hQ hS hx Mi hrc Ai hL hkc Eb
 go_enter Tryz.func196,Tryz.ntmps196
 go_upto_region 0 with fail
 refine dn (S:=λw'=>w'.cell? (af sb 0)=some (ac Q.wb)/\w'.cell? (af Q.wb 1)=some (.slice (some (af gR off)) L cR)/\w'.cell? (af gR (off+i))=some (ab x)) yg ⟨s0,e1,cx⟩ (λhH=>?_);refine tB 0 hH ?_;refine tB 1 hH ?_;refine tB 2 hH ?_;refine tB 3 hH ?_;refine tB 4 hH ?_;refine tB 5 hH ?_;refine tB 6 hH ?_;refine tB 7 hH ?_;refine tB 8 hH ?_;refine tB 9 hH ?_;refine tB 10 hH ?_;refine tB 11 hH ?_;refine tB 12 hH ?_;refine tB 13 hH ?_;refine tB 14 hH ?_;refine tL ?_;refine tS 15 λK hK=>?_
 refine tM ?_
 go_simp;refine(HK.out _ (ah _ w).drew).mono ?_;rintro e w4 ⟨rfl,hb4⟩;try dsimp only
 refine hK.out _ _ ?_ λhH=>?_
 ·exact⟨A4 hb4 hH.1,A4 hb4 hH.2.1,A4 hb4 hH.2.2⟩
 clear hK K;refine tB 16 hH ?_;refine tL ?_;refine bk yg ?_ _;have zV:Hid (Below w.heap.size w w4):=hid ((ah _ w).drew.trans hb4);have Ea:=hb4.size;have Ea:w.heap.size<=w4.heap.size:=Ea;have hsv:DI w4 sb B Q.wb v E:=HS.out.keeps (A1.yX zV.out []) (by simp) (λ_ _=>by simp);clear hH hb4
 by_cases h0:kc=0
 ·have hk0:¬((0:Int)< (kc:Int)):=by omega
  have zN:Hid (E++KR Q.T.N i x u=E):=hid (by rw[HE.out,aq h0,iq]);have Md:=hid hsv;clear h0 hsv;go_wp2
  go_end0
  exact⟨rfl,v,by rw[zN.out];exact Md.out,A1.yX zV.out _,BH.refl _ _⟩
 ·have hk0:((0:Int)< (kc:Int)):=by omega
  have zN:Hid (E++KR Q.T.N i x u=E++ [⟨i,3,x,u,kc⟩]):=hid (by rw[HE.out,au h0]);obtain⟨kE,Gy⟩:=qE (E.length);rw[Gy]at hE;have hrow:w4.ownsRow B 201 5 v kE (DM E):=by rw[<-Gy];exact hsv.row
  have ogS:some sb≠v.ownBlock:=λe=>A5 hrow hsv.blk (by decide) e.symm
  have ogW:some Q.wb≠v.ownBlock:=λe=>by have:=(hrow.lt _ e.symm).1;omega
  have ogR:some gR≠v.ownBlock:=λe=>by have:=(hrow.lt _ e.symm).1;omega
  have t0:w4.cell? (af sb 0)=some (ac Q.wb):=(A0 hsv.blk).trans rfl;have t1:w4.cell? (af sb 1)=some v:=(A0 hsv.blk).trans rfl;have t2:=A4 zV.out e1;have t3:=A4 zV.out cx;have Da:=hid hrow;have Md:=hid hsv;have Yt:=hid Gy;clear h0 hsv hrow Gy s0 e0 e1 cx
  go_upto_region 2 with fail
  refine AE (λw'=>w'.cell? (af sb 0)=some (ac Q.wb)/\w'.cell? (af sb 1)=some v/\w'.cell? (af Q.wb 1)=some (.slice (some (af gR off)) L cR)/\w'.cell? (af gR (off+i))=some (ab x)) hmx yg ⟨t0,t1,t2,t3⟩ (λhH=>?_);simp only[AB,BM,AO];refine tB 0 hH ?_;refine tB 1 hH ?_;refine tB 2 hH ?_;refine tB 3 hH ?_;refine tB 4 hH ?_;refine tB 5 hH ?_;refine tB 6 hH ?_;refine tB 7 hH ?_;refine tB 8 hH ?_;refine tB 9 hH ?_;refine tB 10 hH ?_;refine tB 11 hH ?_;refine tB 12 hH ?_;refine tB 13 hH ?_;refine tB 14 hH ?_;refine tB 15 hH ?_;refine tB 16 hH ?_;refine tB 17 hH ?_;refine tB 18 hH ?_;refine tL ?_;refine tS 19 λK hK=>?_
  refine tM ?_;go_simp;refine hK.out _ _ ?_ λhH=>?_
  ·exact⟨A2 _ hH.1,A2 _ hH.2.1,A2 _ hH.2.2.1,A2 _ hH.2.2.2⟩
  clear hK K;refine tL ?_;refine tS 20 λK hK=>?_
  refine tM ?_;rw[aq (by rfl)];refine mz _ (.tmp 29) (.tmp 44) 198 rfl B 201 iE (.agg #[ab 0,ab 0,ab 0,ab 0,ab 0]) 5 40 Tryz.underlying198 Uz Yq Yr Ys rfl (by decide) v _ _ rfl (Da.out.alloc _) (af w4.heap.size 0) 1 1 [ab i,ab 3,ab x,ab u,ab kc] rfl rfl (dh (fr:=(0,0)) (dw w4 _)) Fb (by omega) zX (by omega) yM _ rfl ?_;intro g2 cap2 w7 hown hgrow hat Bv;refine hK.out _ _ ?_ λhH=>?_
  ·exact⟨(hgrow.cell_far _ yM aae).trans hH.1,(hgrow.cell_far _ yM aae).trans hH.2.1,(hgrow.cell_far _ yM Vq).trans hH.2.2.1,(hgrow.cell_far _ yM (by exact ogR)).trans hH.2.2.2⟩
  clear hK K;refine tL ?_;refine tB 21 hH ?_;refine tB 22 hH ?_;refine tB 23 hH ?_;refine tL ?_;refine bk yg ?_ _;clear hH t0 t1 t2 t3;obtain⟨z1,z2,z3⟩:=Md.out.add (Wa:=(w4.alloc (.cells #[ab i,ab 3,ab x,ab u,ab kc] 201)).drew) (e:=⟨i,3,x,u,kc⟩) ((A1.refl w4 []).alloc _).drew hgrow (by rw[Yt.out];exact hown);have zc:w7.cell? (af sb 1)=some v:=(A0 z1).trans rfl;have zf:=A3 (j:=1) z1;have HZ:=hid (And.intro z2 z3);have abt:Hid (BH w4.heap.size v (ae g2 (kE+1) cap2)):=hid (λg hg=>by
   obtain rfl:g2=g:=by simpa[Value.ownBlock] using hg
   rcases hat with h4 |h4
   ·exact .inl h4
   ·exact .inr Zy)
  clear z1 z2 z3 hown hgrow hat Bv;show wpList _ _ _ _ _ _;go_wp2;obtain⟨W5,Dc⟩:=qE (w7.setCell (af sb 1) (ae g2 (kE+1) cap2));rw[Dc]at HZ ⊢;clear Dc zc zf;go_wp2
  go_end0
  exact⟨rfl,_,by rw[zN.out];exact HZ.out.1,((A1.yX zV.out []).mono (λq h=>by cases h)).trans HZ.out.2,(BH.refl w.heap.size v).trans abt.out (by omega)⟩
theorem oV {g x1 x2:Nat}{y:Wt} (h:w.heap[g]?=some (.cells #[ab x1,ab x2] 313 (0,0))):
  Calls Tryz.prog 191 #[ac g,Bz y] w λe w'=>e=.returned (.bool (decide (zG y (x1,x2))))/\w'.heap[g]?=some (.cells #[ab (BK (x1,x2) y).1,ab (BK (x1,x2) y).2] 313 (0,0))/\A1 w w' [g]:=by
 obtain⟨y1,y2⟩:=y;refine(QL g 0 x1 x2 y1 y2 w ((A0 h).trans rfl) ((A0 h).trans rfl) (λj=>A3 h)).mono ?_;rintro e w' ⟨rfl,w1,hb,hw⟩;have h1:w1.heap[g]?=some (.cells #[ab x1,ab x2] 313 (0,0)):=(hb.block g (ak h)).trans h;refine⟨rfl,?_⟩;rw[LA]
 by_cases hl:zG (y1,y2) (x1,x2)
 ·rw[aq hl]at hw ⊢
  subst hw;exact⟨A6 (j:=1) (A6 (j:=0) h1 _) _,(A1.yX hb [g]).trans (((A1.refl w1 [g]).setCell (by simp) _).setCell (by simp) _)⟩
 ·rw[au hl]at hw ⊢
  subst hw;exact⟨h1,A1.yX hb _⟩
def F6 (f:Nat->Wt):Nat->Wt × Nat
 |0=>((AC,0),0)
 |i+1=>if zG (f i) (F6 f i).1 then(f i,i)else F6 f i
theorem gK (f:Nat->Wt):∀(n:Nat),zq (F6 f n).1 (AC,0)/\(F6 f n).2<=n - 1/\∀i,i<n->zq (F6 f n).1 (f i)
 |0=>⟨FP _,yF _,λi h=>by omega⟩
 |n+1=>by
  obtain⟨h1,h2,h3⟩:=gK f n;unfold F6
  by_cases h:zG (f n) (F6 f n).1
  ·rw[aq h]
   have h4:zq (f n) (F6 f n).1:=by unfold zG at h;unfold zq;omega
   refine⟨GI h4 h1,by show n<=n;omega,λi hi=>?_⟩
   by_cases e:i=n
   ·subst e;exact FP _
   ·exact GI h4 (h3 i (by omega))
  ·rw[au h]
   refine⟨h1,by omega,λi hi=>?_⟩
   by_cases e:i=n
   ·subst e;exact gI h
   ·exact h3 i (by omega)
theorem fH (f:Nat->Wt):∀(n:Nat),(F6 f n).1=(AC,0)\/(0<n/\(F6 f n).1=f (F6 f n).2)
 |0=>.inl rfl
 |n+1=>by
  unfold F6
  by_cases h:zG (f n) (F6 f n).1
  ·rw[aq h];exact .inr ⟨by omega,rfl⟩
  ·rw[au h]
   rcases fH f n with h1 |h1
   ·exact .inl h1
   ·exact .inr ⟨by omega,h1.2⟩
def DV (Q:zu) (cn:Nat->Nat->Nat->Wt) (a:Nat):Wt:=GD (cn 0 0 a) (E2 Q.T.N Q.row a Q.row.length,0)
theorem VL  (hQ:Q.In w) {cn:Nat->Nat->Nat->Wt} (hS:DI w sb B Q.wb v E) (hgB:Q.gp<B) (hBw:B<=w.heap.size) (hc:Fl cn) (hn:∀a,a<=Q.row.length->Gv Q w B 0 a (λn=>cn n 0 a)):
  Calls Tryz.prog 145 #[ac sb] w λe w'=>e=.returned (ab (F6 (DV Q cn) (Q.row.length+1)).2)/\Below w.heap.size w w':=by
 have Hu:=hQ.Em;have hsw:sb<w.heap.size:=ak hS.blk;have Au:=hQ.zG;have aas:=hQ.Mp;have abk:Q.T.tb<w.heap.size:=hQ.tab.bd.tb;obtain⟨aR,cR,Ai,Eb,_⟩:=hQ.Xy;have e0:w.cell? (af Q.wb 0)=some (ac Q.T.tb):=(A0 hQ.blk).trans rfl;have e1:w.cell? (af Q.wb 1)=some (.slice aR Q.row.length cR):=by rw[<-Ai];exact(A0 hQ.blk).trans rfl
 have s0:w.cell? (af sb 0)=some (ac Q.wb):=(A0 hS.blk).trans rfl;obtain⟨d0,d1,_⟩:=hQ.tab.tv.Ar;have HQ:Hid (∀V,Below B w V->Q.In V):=hid λV hb=>hQ.below (hb.mono (by omega))
 have Kj:Hid (∀V a,Below B w V->a<=Q.row.length->Gv Q V B 0 a (λn=>cn n 0 a)):=hid λV a hb ha=>(hn a ha).below hb hgB
 have Wz:Hid (0<Q.T.N.nN):=hid hQ.tab.fc.gr.ok.pos;have agM:Hid (Q.T.N.Ok/\∀x∈Q.row,x<Q.T.N.nT):=hid ⟨hQ.tab.fc.gr.ok,hQ.rl⟩;have HC:Hid (Fl cn):=hid hc;obtain⟨nT,zo⟩:=qF (Q.T.N.nT);obtain⟨nN,yY⟩:=qF (Q.T.N.nN);obtain⟨L,hL⟩:=qF (Q.row.length);rw[<-zo]at d0;rw[<-yY]at d1;rw[<-hL]at e1 Eb Hu;obtain⟨L1,Cb⟩:=qF (L+1);have hLi:IntKind.i64.wrap ((L:Int)+1)=(L1:Int):=by rw[Cy];omega
 have alL:L1<=101:=by omega
 have HL:Hid (L=Q.row.length/\L1=L+1):=hid ⟨hL,Cb⟩;clear hQ hS hc hn zo yY hL Cb Ai Eb
 go_enter Tryz.func145,Tryz.ntmps145
 have s0':(w.alloc (.cells #[ab 1048576,ab 0] 313)).cell? (af sb 0)=some (ac Q.wb):=A2 _ s0;have e1':(w.alloc (.cells #[ab 1048576,ab 0] 313)).cell? (af Q.wb 1)=some (.slice aR L cR):=A2 _ e1;go_wp2;obtain⟨W,hW⟩:=qE (w.alloc (.cells #[ab 1048576,ab 0] 313));have Pn:A1 w W []:=by rw[<-hW];exact(A1.refl w []).alloc _
 have hlW:W.heap[w.heap.size]?=some (.cells #[ab 1048576,ab 0] 313 (0,0)):=by rw[<-hW];exact ay w _
 have hsW:w.heap.size<W.heap.size:=ak hlW;rw[hW];have Ug:=hid Pn;have HLW:=hid hlW;clear hW s0' e1' Pn hlW hLi
 go_loopw [4,16] (λev z wr=>∃(i:Nat),i<=L1/\ev=ab ((F6 (DV Q cn) i).2:Nat)/\z=ab i/\Hid (A1 W wr [w.heap.size])/\Hid (wr.heap[w.heap.size]?=some (.cells #[ab (F6 (DV Q cn) i).1.1,ab (F6 (DV Q cn) i).1.2] 313 (0,0)))) (λ_ z _=>L1 - (intOf z).toNat)
 case atStart=>exact⟨0,bu _,rfl,rfl,hid (A1.refl _ _),HLW⟩
 case round=>
  obtain⟨i,hi,rfl,rfl,y7,Ad⟩:=hrel;have zv:Hid (Below w.heap.size w wr):=hid ((Ug.out.below (yF _) (λq h=>by cases h)).trans (y7.out.below (by omega) (λq hq=>by rw[mS.1 hq];exact yF _)))
  by_cases hlt:i<L1
  ·obtain⟨m1,hm1⟩:=qE ((F6 (DV Q cn) i).1.1)
   obtain⟨m2,hm2⟩:=qE ((F6 (DV Q cn) i).1.2);obtain⟨ev,hev⟩:=qE ((F6 (DV Q cn) i).2);rw[hm1,hm2]at Ad;rw[hev];have HM:Hid (F6 (DV Q cn) i=((m1,m2),ev)):=hid (vv (vv hm1 hm2) hev);have hcb:=HC.out 0 0 i;unfold AC FZ at hcb;obtain⟨c1,hc1⟩:=qE ((cn 0 0 i).1);obtain⟨c2,hc2⟩:=qE ((cn 0 0 i).2);rw[hc1,hc2]at hcb;obtain⟨alM,ajJ⟩:=hcb;have hLr:=HL.out.1;have ajK:=HL.out.2;have hab:=NH (N:=Q.T.N) Q.row (show i<=Q.row.length by omega);obtain⟨hab,hdc⟩:=hab;have hds:=JO agM.out.1 agM.out.2 (by omega) Q.row.length;obtain⟨dc,Xz⟩:=qE (E2 Q.T.N Q.row i Q.row.length);have ai7:dc<=9900:=by omega
   rw[Xz]at hdc;have Ed:∀V,Below wr.heap.size wr V->Below B w V:=λV hb=>(zv.out.mono hBw).trans (hb.mono (by have:=zv.out.size;omega))
   have Oo:Hid (∀V,Calls Tryz.prog 118 #[.agg #[.slice Q.T.yu nT Q.T.yl,ae Q.T.gN nN Q.T.xY]] V λe w'=>e=.returned (.agg #[.bool true,ab 0])/\Below V.heap.size V w'):=hid λV=>N9 _ _ V
   have H17:Hid (∀V,Below wr.heap.size wr V->Calls Tryz.prog 192 #[ac Q.wb,.agg #[.bool true,ab 0],ab 0,ab i] V λe w'=>e=.returned (.agg #[ab c1,ab c2])/\Below V.heap.size V w'):=hid λV hb=>by
    have h:=U4 (HQ.out V (Ed V hb)) (p:=.yB 0) (i:=0) (k:=i) (cn:=cn) Wz.out (bu _) (by omega) (λn e=>by cases e;exact Kj.out V i (Ed V hb) (by omega)) (by have:=(Ed V hb).size;omega);rw[show CZ Q.T.N Q.row cn (.yB 0) 0 i=(c1,c2) from vv hc1 hc2]at h;exact h
   have H31:Hid (∀V,Below wr.heap.size wr V->Calls Tryz.prog 194 #[ac Q.wb,ab i,ab L] V λe w'=>e=.returned (ab dc)/\Below V.heap.size V w'):=hid λV hb=>by
    have hV:=HQ.out V (Ed V hb);have h:=N4 V Q.wb Q.gd (Q.row.length+1) Q.cd i Q.row.length _ _ ((A0 hV.blk).trans rfl) (by omega) (by omega) (by omega) (hV.Sq i (by omega)) (hV.Sq Q.row.length (yF _)) hab (by omega);rw[hdc,<-hLr]at h;exact h
   obtain⟨y,hy⟩:=qE (GD (c1,c2) (dc,0));obtain⟨y1,y2⟩:=y;have H33:Hid (∀V,Calls Tryz.prog 193 #[.agg #[ab c1,ab c2],.agg #[ab dc,ab 0]] V λe w'=>e=.returned (.agg #[ab y1,ab y2])/\Below V.heap.size V w'):=hid λV=>by
    have h:=RB c1 c2 dc 0 (by omega) ajJ (by omega) V;rw[hy]at h;exact h
   have HY:Hid (DV Q cn i=(y1,y2)):=hid (by unfold DV;rw[Xz,<-hy,show cn 0 0 i=(c1,c2) from vv hc1 hc2]);have Rt:Hid (F6 (DV Q cn) (i+1)=if zG (y1,y2) (m1,m2)then((y1,y2),i)else((m1,m2),ev)):=hid (by
    show(if zG (DV Q cn i) (F6 (DV Q cn) i).1 then(DV Q cn i,i)else F6 (DV Q cn) i)=_;rw[HM.out,HY.out])
   have t0:=(zv.out.cell (p:=(af sb 0)) (by exact hsw)).trans s0;have t1:=(zv.out.cell (p:=(af Q.wb 0)) Gd).trans e0;have t2:=(zv.out.cell (p:=(af Q.wb 1)) Gd).trans e1;have t3:=(zv.out.cell (p:=(af Q.T.tb 0)) (by exact abk)).trans d0;have t4:=(zv.out.cell (p:=(af Q.T.tb 1)) (by exact abk)).trans d1;have Va:w.heap.size<wr.heap.size:=by have:=y7.out.size;omega
   clear hm1 hm2 hev hc1 hc2 hLr ajK hab hdc hds Xz Ed hy
   go_upto_region 5 with fail
   refine dn (S:=λw'=>w'.cell? (af sb 0)=some (ac Q.wb)/\w'.cell? (af Q.wb 0)=some (ac Q.T.tb)/\w'.cell? (af Q.wb 1)=some (.slice aR L cR)/\w'.cell? (af Q.T.tb 0)=some (.slice Q.T.yu nT Q.T.yl)/\w'.cell? (af Q.T.tb 1)=some (ae Q.T.gN nN Q.T.xY)) yg ⟨t0,t1,t2,t3,t4⟩ (λhH=>?_);refine tB 0 hH ?_;refine tB 1 hH ?_;refine tB 2 hH ?_;refine tB 3 hH ?_;refine tB 4 hH ?_;refine tB 5 hH ?_;refine tB 6 hH ?_;refine tB 7 hH ?_;refine tB 8 hH ?_;refine tB 9 hH ?_;refine tB 10 hH ?_;refine tB 11 hH ?_;refine tB 12 hH ?_;refine tB 13 hH ?_;refine tB 14 hH ?_;refine tB 16 hH ?_;refine tB 18 hH ?_;refine tB 19 hH ?_;refine tB 20 hH ?_;refine tB 21 hH ?_;refine tB 22 hH ?_;refine tB 23 hH ?_;refine tB 24 hH ?_;refine tB 25 hH ?_;refine tB 26 hH ?_;refine tB 27 hH ?_;refine tB 28 hH ?_;refine tB 29 hH ?_;refine tB 30 hH ?_;refine tL ?_;refine tS 15 λK hK=>?_
   refine tM ?_
   go_simp;refine(Oo.out _).mono ?_;rintro e w1 ⟨rfl,hb1⟩;try dsimp only
   refine hK.out _ _ ?_ λhH=>?_
   ·exact⟨A4 hb1 hH.1,A4 hb1 hH.2.1,A4 hb1 hH.2.2.1,A4 hb1 hH.2.2.2.1,A4 hb1 hH.2.2.2.2⟩
   clear hK K;refine tL ?_;have G1:Hid (Below wr.heap.size wr w1):=hid ((ah _ wr).drew.trans hb1);refine tS 17 λK hK=>?_
   refine tM ?_
   go_simp;refine(H17.out _ G1.out).mono ?_;rintro e w2 ⟨rfl,hb2⟩;try dsimp only
   refine hK.out _ _ ?_ λhH=>?_
   ·exact⟨A4 hb2 hH.1,A4 hb2 hH.2.1,A4 hb2 hH.2.2.1,A4 hb2 hH.2.2.2.1,A4 hb2 hH.2.2.2.2⟩
   clear hK K;refine tL ?_;have G2:Hid (Below wr.heap.size wr w2):=hid (G1.out.trans (hb2.mono G1.out.size));refine tS 31 λK hK=>?_
   refine tM ?_
   go_simp;refine(H31.out _ G2.out).mono ?_;rintro e w3 ⟨rfl,hb3⟩;try dsimp only
   refine hK.out _ _ ?_ λhH=>?_
   ·exact⟨A4 hb3 hH.1,A4 hb3 hH.2.1,A4 hb3 hH.2.2.1,A4 hb3 hH.2.2.2.1,A4 hb3 hH.2.2.2.2⟩
   clear hK K;refine tL ?_;have G3:Hid (Below wr.heap.size wr w3):=hid (G2.out.trans (hb3.mono G2.out.size));refine tB 32 hH ?_;refine tL ?_;refine tS 33 λK hK=>?_
   refine tM ?_
   go_simp;refine(H33.out _).mono ?_;rintro e w4 ⟨rfl,hb4⟩;try dsimp only
   refine hK.out _ _ ?_ λhH=>?_
   ·exact⟨A4 hb4 hH.1,A4 hb4 hH.2.1,A4 hb4 hH.2.2.1,A4 hb4 hH.2.2.2.1,A4 hb4 hH.2.2.2.2⟩
   clear hK K;refine tL ?_;have G4:Hid (Below wr.heap.size wr w4):=hid (G3.out.trans (hb4.mono G3.out.size));have H34:Hid (Calls Tryz.prog 191 #[ac w.heap.size,.agg #[ab y1,ab y2]] w4 λe w'=>e=.returned (.bool (decide (zG (y1,y2) (m1,m2))))/\w'.heap[w.heap.size]?=some (.cells #[ab (BK (m1,m2) (y1,y2)).1,ab (BK (m1,m2) (y1,y2)).2] 313 (0,0))/\A1 w4 w' [w.heap.size]):=hid (oV (y:=(y1,y2)) ((G4.out.block _ Va).trans Ad.out));have Ea:=G4.out.size;refine tS 34 λK hK=>?_
   refine tM ?_
   go_simp;refine H34.out.mono ?_;rintro e w5 ⟨rfl,Xf,zj⟩;try dsimp only
   refine hK.out _ _ ?_ λhH=>?_
   ·exact⟨(zj.cell (by show sb<w4.heap.size;omega) yM).trans hH.1,(zj.cell Zq yM).trans hH.2.1,(zj.cell Zq yM).trans hH.2.2.1,(zj.cell (by show Q.T.tb<w4.heap.size;omega) yM).trans hH.2.2.2.1,(zj.cell (by show Q.T.tb<w4.heap.size;omega) yM).trans hH.2.2.2.2⟩
   clear hK K;refine tL ?_;refine bk yg ?_ _;have Fh:Hid (A1 W w5 [w.heap.size]):=hid (y7.out.trans (((A1.yX G4.out []).mono (λq h=>by cases h)).trans zj));have HL5:=hid Xf;clear hH hb1 hb2 hb3 hb4 zj Xf y7 Ad t0 t1 t2 t3 t4
   by_cases hw:zG (y1,y2) (m1,m2)
   ·rw[ij hw]
    have e:=Rt.out;rw[aq hw]at e;have HR:Hid (F6 (DV Q cn) (i+1)=((y1,y2),i)):=hid e;have HL6:Hid (w5.heap[w.heap.size]?=some (.cells #[ab y1,ab y2] 313 (0,0))):=hid (by have h:=HL5.out;rw[LA,aq hw]at h;exact h);clear e hw;go_wp2
    go_roundw
    case rel=>exact⟨i+1,by omega,by rw[HR.out],by go_num,Fh,by rw[HR.out];exact HL6⟩
    case measure=>simp[intOf];omega
   ·rw[fq hw]
    have e:=Rt.out;rw[au hw]at e;have HR:Hid (F6 (DV Q cn) (i+1)=((m1,m2),ev)):=hid e;have HL6:Hid (w5.heap[w.heap.size]?=some (.cells #[ab m1,ab m2] 313 (0,0))):=hid (by have h:=HL5.out;rw[LA,au hw]at h;exact h);clear e hw;go_wp2
    go_roundw
    case rel=>exact⟨i+1,by omega,by rw[HR.out],by go_num,Fh,by rw[HR.out];exact HL6⟩
    case measure=>simp[intOf];omega
  ·have Uz:i=L1:=by omega
   have HE:Hid (i=Q.row.length+1):=hid Vp;clear Ad y7;go_wp2;go_ret;exact⟨by rw[<-HE.out];rfl,zv.out⟩
theorem aen {P:Prop} (h:P:=by
  exact⟨⟨A4 hb1 hH.1.1,A4 hb1 hH.1.2.1,A4 hb1 hH.1.2.2⟩,A4 hb1 hH.2.1,A4 hb1 hH.2.2.1,A4 hb1 hH.2.2.2.1,A4 hb1 hH.2.2.2.2⟩):P:=h
theorem bP {V:World}{pb nb gn gq nN nQ n h c1 c2 t1 t2:Nat} (Tu:V.cell? (af pb 0)=some (ae gn nN nN)) (Bu:V.cell? (af pb 1)=some (ae gq nQ nQ)) (hn:V.cell? (af nb 0)=some (ab n))
  (yY:n<nN) (hhQ:h<nQ) (_:nN<=1000) (_:nQ<=1000) (k1:V.cell? (af gn (n*2))=some (ab c1)) (k2:V.cell? (af gn (n*2+1))=some (ab c2)) (k3:V.cell? (af gq (h*2))=some (ab t1)) (k4:V.cell? (af gq (h*2+1))=some (ab t2))
  (Et:t1<=4611686018427387000) (Gj:t2<=939524097):
  Calls Tryz.prog 221 #[ab h,ac pb,ac nb] V λe w'=>e=.returned (.bool (decide (named (t1,t2)=(c1,c2))))/\Below V.heap.size V w':=by
 have hhi:((h:Int)< (nQ:Int)):=by omega
 have hni:((n:Int)< (nN:Int)):=by omega
 have Kj:Hid (∀V,Calls Tryz.prog 222 #[.agg #[ab t1,ab t2]] V λe w'=>e=.returned (Bz (named (t1,t2)))/\Below V.heap.size V w'):=hid λV=>VC t1 t2 (by omega) Gj V
 obtain⟨y,hy⟩:=qE (named (t1,t2));obtain⟨y1,y2⟩:=y;rw[hy]at Kj ⊢;clear hy
 by_cases e1:y1=c1
 ·subst e1
  by_cases e2:y2=c2
  ·subst e2
   go_enter Tryz.func221,Tryz.ntmps221
   go_upto_region 1 with fail
   refine dn (S:=λw'=>(w'.cell? (af pb 0)=some (ae gn nN nN)/\w'.cell? (af pb 1)=some (ae gq nQ nQ)/\w'.cell? (af nb 0)=some (ab n))/\w'.cell? (af gn (n*2))=some (ab y1)/\w'.cell? (af gn (n*2+1))=some (ab y2)/\w'.cell? (af gq (h*2))=some (ab t1)/\w'.cell? (af gq (h*2+1))=some (ab t2)) yg ⟨⟨Tu,Bu,hn⟩,k1,k2,k3,k4⟩ (λhH=>?_);refine tB 0 hH ?_;refine tB 1 hH ?_;refine tB 2 hH ?_;refine tB 3 hH ?_;refine tB 4 hH ?_;refine tB 6 hH ?_;refine tB 7 hH ?_;refine tB 8 hH ?_;refine tB 9 hH ?_;refine tB 10 hH ?_;refine tL ?_;refine tS 5 λK hK=>?_
   refine tM ?_
   go_simp;refine(Kj.out _).mono ?_;rintro e w1 ⟨rfl,hb1⟩;unfold Bz;try dsimp only
   refine hK.out _ _ ?_ λhH=>?_
   ·exact aen
   clear hK K;refine tB 11 hH ?_;refine tB 12 hH ?_;refine tL ?_;refine bk yg ?_ _;have yR:Hid (Below V.heap.size V w1):=hid ((ah _ V).drew.trans hb1);clear hH hb1;go_wp2;go_ret;exact⟨rfl,yR.out⟩
  ·have e3:¬((y2:Int)=(c2:Int)):=by omega
   go_enter Tryz.func221,Tryz.ntmps221
   go_upto_region 1 with fail
   refine dn (S:=λw'=>(w'.cell? (af pb 0)=some (ae gn nN nN)/\w'.cell? (af pb 1)=some (ae gq nQ nQ)/\w'.cell? (af nb 0)=some (ab n))/\w'.cell? (af gn (n*2))=some (ab y1)/\w'.cell? (af gn (n*2+1))=some (ab c2)/\w'.cell? (af gq (h*2))=some (ab t1)/\w'.cell? (af gq (h*2+1))=some (ab t2)) yg ⟨⟨Tu,Bu,hn⟩,k1,k2,k3,k4⟩ (λhH=>?_);refine tB 0 hH ?_;refine tB 1 hH ?_;refine tB 2 hH ?_;refine tB 3 hH ?_;refine tB 4 hH ?_;refine tB 6 hH ?_;refine tB 7 hH ?_;refine tB 8 hH ?_;refine tB 9 hH ?_;refine tB 10 hH ?_;refine tL ?_;refine tS 5 λK hK=>?_
   refine tM ?_
   go_simp;refine(Kj.out _).mono ?_;rintro e w1 ⟨rfl,hb1⟩;unfold Bz;try dsimp only
   refine hK.out _ _ ?_ λhH=>?_
   ·exact aen
   clear hK K;refine tB 11 hH ?_;refine tB 12 hH ?_;refine tL ?_;refine bk yg ?_ _;have yR:Hid (Below V.heap.size V w1):=hid ((ah _ V).drew.trans hb1);clear hH hb1;go_wp2;go_ret;exact⟨by rw[fq (λh=>e2 (by injection h))];rfl,yR.out⟩
 ·have e3:¬((y1:Int)=(c1:Int)):=by omega
  go_enter Tryz.func221,Tryz.ntmps221
  go_upto_region 1 with fail
  refine dn (S:=λw'=>(w'.cell? (af pb 0)=some (ae gn nN nN)/\w'.cell? (af pb 1)=some (ae gq nQ nQ)/\w'.cell? (af nb 0)=some (ab n))/\w'.cell? (af gn (n*2))=some (ab c1)/\w'.cell? (af gn (n*2+1))=some (ab c2)/\w'.cell? (af gq (h*2))=some (ab t1)/\w'.cell? (af gq (h*2+1))=some (ab t2)) yg ⟨⟨Tu,Bu,hn⟩,k1,k2,k3,k4⟩ (λhH=>?_);refine tB 0 hH ?_;refine tB 1 hH ?_;refine tB 2 hH ?_;refine tB 3 hH ?_;refine tB 4 hH ?_;refine tB 6 hH ?_;refine tB 7 hH ?_;refine tB 8 hH ?_;refine tB 9 hH ?_;refine tB 10 hH ?_;refine tL ?_;refine tS 5 λK hK=>?_
  refine tM ?_
  go_simp;refine(Kj.out _).mono ?_;rintro e w1 ⟨rfl,hb1⟩;unfold Bz;try dsimp only
  refine hK.out _ _ ?_ λhH=>?_
  ·exact aen
  clear hK K;refine tB 11 hH ?_;refine tB 12 hH ?_;refine tL ?_;refine bk yg ?_ _;have yR:Hid (Below V.heap.size V w1):=hid ((ah _ V).drew.trans hb1);clear hH hb1;go_wp2;go_ret;exact⟨by rw[fq (λh=>e1 (by injection h))];rfl,yR.out⟩
theorem j7 {l:List Nat} (hv:Cw w B v l) (hB:B<=w.heap.size) (hl:l.length<=1000) {cf:Nat}{lb:Array Value}{p:Nat->Bool} (he:∀args W,(callFunc cf args).run Tryz.prog W=.ok (.enter cf args) W)
  (hcf:∀V x,x∈l->Below w.heap.size w V->Calls Tryz.prog cf (#[ab (x:Int)]++lb) V λe w'=>e=.returned (.bool (p x))/\Below V.heap.size V w') (hex:∃x∈l,p x=true):
  Calls Tryz.prog 220 #[v,.func (.func cf) #[] lb] w λe w'=>∃i x:Nat,e=.returned (ab i)/\l[i]?=some x/\p x=true/\Below w.heap.size w w':=by
 obtain⟨ad,cap,rfl,hcap,hc⟩:=hv;obtain⟨n,hn⟩:=qF (l.length);rw[<-hn]at hcap hc hl ⊢;have HN:=hid hn;have HC:=hid hc;have HF:=hid hcf;have HE:=hid hex;clear hc hcf hex hn
 go_enter Tryz.func220,Tryz.ntmps220
 go_wp2
 go_loopw [8] (λz wr=>∃j:Nat,j<=n/\z=ab j/\Hid (∀(m:Nat) x,m<j->l[m]?=some x->p x=false)/\Hid (Below w.heap.size w wr)) (λz _=>n - (intOf z).toNat)
 case atStart=>exact⟨0,bu _,rfl,hid (λm x h=>by omega),hid (ah _ _)⟩
 case round=>
  obtain⟨j,hj,rfl,hno,hb⟩:=hrel
  by_cases hlt:j<n
  ·obtain⟨x,hx⟩:∃x,l[j]?=some x:=⟨_,gE abQ⟩
   obtain⟨g,off,rfl,hgB,Fj⟩:=HC.out (by omega);have cx:=(hb.out.cell (p:=(af g (off+j))) Hj).trans (Fj j x hx);have CC:=HF.out wr x (mG hx) hb.out;have HX:=hid hx;clear hx Fj;cases hp:p x
   ·rw[hp]at CC
    have HNo:Hid (∀(m:Nat) y,m<j+1->l[m]?=some y->p y=false):=hid λm y hm hy=>by
     rcases jw m j with h |h
     ·exact hno.out m y h hy
     ·obtain rfl:m=j:=by omega
      rw[HX.out]at hy;injection hy with hy;rw[<-hy];exact hp
    go_wp2_with (refine CC.mono ?_;rintro e w2 ⟨rfl,hb2⟩;have yV:=hid (hb.out.trans (hb2.mono hb.out.size));clear hb2 CC)
    go_roundw
    case rel=>exact⟨j+1,by omega,by go_num,HNo,yV⟩
    case measure=>simp[intOf];omega
   ·rw[hp]at CC
    go_wp2_with (refine CC.mono ?_;rintro e w2 ⟨rfl,hb2⟩;have yV:=hid (hb.out.trans (hb2.mono hb.out.size));clear hb2 CC)
    go_ret;exact⟨j,x,rfl,HX.out,hp,yV.out⟩
  ·exfalso
   obtain⟨x,hx,hp⟩:=HE.out;obtain⟨m,hm,he⟩:=jr.1 hx;have h1:=hno.out m x Iz (by rw[gE hm,he]);rw[hp]at h1;cases h1
end Go.Proofs.YtjjggdcnpndgjaaGreatDoor
