import Derived.Test.YtjjggdcnpndgjaaGreatDoorCJ33
set_option linter.unusedSimpArgs false
set_option maxHeartbeats 8000000
set_option maxRecDepth 100000
namespace Go.Proofs.YtjjggdcnpndgjaaGreatDoor
open Go.RowKit Go.Shelf
variable {B sb:Nat}{E:List Ab}{Q:Aq}{v:Value}{w:World}
theorem dQ (N:NG) (row:List Nat) (i n x:Nat) (h:row[i+n]?=some x):DY N row i (n+1)=DY N row i n++ [⟨i+n,2,x,N.nT,N.drop x⟩]:=by
 unfold DY;rw[uw,fq,List.map_singleton,Af,h];rfl
theorem T8 (N:NG) (row:List Nat) (i n:Nat):(DY N row i n).length=n:=by unfold DY;simp
theorem RH  (hQ:Q.In w) {i k:Nat} (hS:DT w sb B Q.wb v E) (hgB:Q.gp<B) (hBw:B<=w.heap.size) (hik:i<=k) (hk:k<=Q.row.length) (hE:E.length<=4000000):
  Calls Tryz.prog 147 #[ac sb,ab i,ab k] w λe w'=>e=.returned (.tuple #[])/\∃v',DT w' sb B Q.wb v' (E++DY Q.T.N Q.row i (k - i))/\A5 w w' (sb::v.ownBlock.toList)/\BN w.heap.size v v':=by
 obtain⟨iE,Xw,aak,aal,aam⟩:=iy Tryz.infoB201;have Kh:=hQ.Gi;have hsw:sb<w.heap.size:=ak hS.blk;have HQ:Hid (∀V,Below B w V->Q.In V):=hid λV hb=>hQ.below (hb.mono (by omega))
 have HS:Hid (DT w sb B Q.wb v E):=hid hS;have Cs:=hQ.At;have aa6:=hQ.Og;have hsB:=hS.sbB;obtain⟨L,hL⟩:=qF (Q.row.length);rw[<-hL]at hk Kh;have HL:=hid hL;clear hQ hS hL
 go_enter Tryz.func147,Tryz.ntmps147
 go_wp2
 go_loopw [6] (λz wr=>∃(m:Nat) (vr:Value),i<=m/\m<=k/\z=ab m/\Hid (DT wr sb B Q.wb vr (E++DY Q.T.N Q.row i (m - i)))/\Hid (A5 w wr (sb::v.ownBlock.toList))/\Hid (BN w.heap.size v vr)) (λz _=>k - (intOf z).toNat)
 case atStart=>exact⟨i,v,zn _,hik,rfl,hid (by rw[ku];simpa[DY] using HS.out),hid (A5.refl _ _),hid (BN.refl _ _)⟩
 case round=>
  obtain⟨m,vr,him,hmk,rfl,hsv,zW,hfr⟩:=hrel
  by_cases hlt:m<k
  ·have zX:Below B w wr:=zW.out.below (by omega) (λq hq=>(HS.out.kind q hq).1)
   have Fu:=HQ.out wr zX;obtain⟨x,hx⟩:∃x,Q.row[m]?=some x:=⟨_,gE aaI⟩;have Kf:=Fu.rl x (mG hx);obtain⟨aR,cR,Cn,Fy,hrc⟩:=Fu.aaf;rw[<-HL.out]at Cn Fy hrc;obtain⟨gR,off,rfl,Nz,Oa⟩:=hrc (by omega);have cx:=Oa m x hx;have e0:wr.cell? (af Q.wb 0)=some (ac Q.T.tb):=(A0 Fu.blk).trans rfl;have e1:wr.cell? (af Q.wb 1)=some (.slice (some (af gR off)) L cR):=by rw[<-Cn];exact(A0 Fu.blk).trans rfl
   have s0:wr.cell? (af sb 0)=some (ac Q.wb):=(A0 hsv.out.blk).trans rfl;have s1:wr.cell? (af sb 1)=some vr:=(A0 hsv.out.blk).trans rfl;obtain⟨d0,d1,_⟩:=Fu.tab.tv.Cq;obtain⟨nT,Ac⟩:=qF (Q.T.N.nT);obtain⟨nN,zT⟩:=qF (Q.T.N.nN);have Om:Hid (∀V,Calls Tryz.prog 115 #[.agg #[.slice Q.T.yZ nT Q.T.yT,ae Q.T.gN nN Q.T.yQ]] V λe w'=>e=.returned (ab nT)/\Below V.heap.size V w'):=hid λV=>N2 V _ _ _ _ _ _
   obtain⟨hab,hdc⟩:=NP (N:=Q.T.N) Q.row (show m<=m+1 by omega);have hds:=K1 Fu.tab.fc.gr.ok Fu.rl Fu.Gi (m+1);have hdx:AY Q.T.N (Q.row.take (m+1)) - AY Q.T.N (Q.row.take m)=Q.T.N.drop x:=by rw[VD hx];omega
   obtain⟨dx,ae8⟩:=qE (Q.T.N.drop x);have Rg:Hid (∀V,Below wr.heap.size wr V->Calls Tryz.prog 194 #[ac Q.wb,ab m,ab ((m:Int)+1)] V λe w'=>e=.returned (ab dx)/\Below V.heap.size V w'):=hid λV hb=>by
    have hV:=HQ.out V (zX.trans (hb.mono (by have:=zX.size;omega)));have hLr:=HL.out;have h:=NA V Q.wb Q.gd (Q.row.length+1) Q.cd m (m+1) _ _ ((A0 hV.blk).trans rfl) (by omega) (by omega) (by omega) (hV.Uz m (by omega)) (hV.Uz (m+1) (by omega)) hab (by omega);rw[hdx,ae8]at h;exact h
   have hE2:E.length+(m - i)<=4000100:=by omega
   obtain⟨E1,Ur⟩:=qE (E++DY Q.T.N Q.row i (m - i));have hEn:E++DY Q.T.N Q.row i (m+1 - i)=E1++ [⟨m,2,x,nT,dx⟩]:=by
    rw[show m+1 - i=(m - i)+1 by omega,dQ _ _ _ _ x (by rw[show i+(m - i)=m by omega];exact hx),<-aA,Ur,ae8,Ac,show i+(m - i)=m by omega]
   have hEl:E1.length=E.length+(m - i):=by rw[<-Ur,lA,T8]
   rw[Ur]at hsv;obtain⟨kE,Jq⟩:=qE (E1.length);have aml:kE<=4000100:=by omega
   have hrow:wr.ownsRow B 201 5 vr kE (DW E1):=by rw[<-Jq];exact hsv.out.row
   have ogS:some sb≠vr.ownBlock:=λe=>A9 hrow hsv.out.blk (by decide) e.symm
   have ogW:some Q.wb≠vr.ownBlock:=λe=>by have:=(hrow.lt _ e.symm).1;omega
   have ogR:some gR≠vr.ownBlock:=λe=>by have:=(hrow.lt _ e.symm).1;omega
   have hwr:=zW.out.size;rw[<-Ac]at d0;rw[<-zT]at d1;have Tp:some Q.T.tb≠vr.ownBlock:=λe=>by have:=(hrow.lt _ e.symm).1;have:=Fu.bd.tb;omega
   have hmw:IntKind.i64.wrap ((m:Int)+1)=(m:Int)+1:=by rw[Db];omega
   have hml:((m:Int)< (L:Int)):=by omega
   have Dl:=hid hrow;have HEn:=hid hEn;have Gj:=hid hsv.out;have HKe:=hid Jq;have Sa:=zW;have HFr:=hfr;have HQr:=hid Fu;have ab1:Q.T.tb<wr.heap.size:=by have:=Fu.bd.tb;omega
   have akg:gR<wr.heap.size:=by omega
   clear hsv zW hfr hrow hEn Jq hEl Ur hE2 hdx ae8 hdc hab hds Oa hrc Cn hx Kf Fu zX Ac zT Fy
   go_upto_region 3 with fail
   refine AH (λw'=>(w'.cell? (af sb 0)=some (ac Q.wb)/\w'.cell? (af sb 1)=some vr/\w'.cell? (af Q.wb 0)=some (ac Q.T.tb)/\w'.cell? (af Q.wb 1)=some (.slice (some (af gR off)) L cR))/\w'.cell? (af gR (off+m))=some (ab x)/\w'.cell? (af Q.T.tb 0)=some (.slice Q.T.yZ nT Q.T.yT)/\w'.cell? (af Q.T.tb 1)=some (ae Q.T.gN nN Q.T.yQ)) hmx yM ⟨⟨s0,s1,e0,e1⟩,cx,d0,d1⟩ (λhH=>?_);simp only[AG,BP,AR];refine tB 0 hH ?_;refine tB 1 hH ?_;refine tB 2 hH ?_;refine tB 3 hH ?_;refine tB 4 hH ?_;refine tB 5 hH ?_;refine tB 6 hH ?_;refine tB 7 hH ?_;refine tB 8 hH ?_;refine tB 9 hH ?_;refine tB 10 hH ?_;refine tB 11 hH ?_;refine tB 12 hH ?_;refine tB 13 hH ?_;refine tB 14 hH ?_;refine tB 15 hH ?_;refine tB 16 hH ?_;refine tB 17 hH ?_;refine tB 18 hH ?_;refine tB 19 hH ?_;refine tB 20 hH ?_;refine tB 21 hH ?_;refine tB 22 hH ?_;refine tB 23 hH ?_;refine tB 24 hH ?_;refine tB 25 hH ?_;refine tB 26 hH ?_
   refine tB 28 hH ?_;refine tB 29 hH ?_;refine tB 30 hH ?_;refine tB 31 hH ?_;refine tB 32 hH ?_;refine tB 33 hH ?_;refine tB 34 hH ?_;refine tL ?_;refine tS 27 λK hK=>?_
   refine tM ?_
   go_simp;refine(Om.out _).mono ?_;rintro e w4 ⟨rfl,hb4⟩;try dsimp only
   refine hK.out _ _ ?_ λhH=>?_
   ·exact⟨⟨A8 hb4 hH.1.1,A8 hb4 hH.1.2.1,A8 hb4 hH.1.2.2.1,A8 hb4 hH.1.2.2.2⟩,A8 hb4 hH.2.1,A8 hb4 hH.2.2.1,A8 hb4 hH.2.2.2⟩
   clear hK K;refine tL ?_;have Bk:Hid (Below wr.heap.size wr w4):=hid ((ah _ wr).drew.trans hb4);refine tS 35 λK hK=>?_
   refine tM ?_
   go_simp;refine(Rg.out _ Bk.out).mono ?_;rintro e w5 ⟨rfl,zP⟩;try dsimp only
   refine hK.out _ _ ?_ λhH=>?_
   ·exact⟨⟨A8 zP hH.1.1,A8 zP hH.1.2.1,A8 zP hH.1.2.2.1,A8 zP hH.1.2.2.2⟩,A8 zP hH.2.1,A8 zP hH.2.2.1,A8 zP hH.2.2.2⟩
   clear hK K;refine tL ?_;have Av:Hid (Below wr.heap.size wr w5):=hid (Bk.out.trans (zP.mono Bk.out.size));refine tB 36 hH ?_;refine tL ?_;refine tS 37 λK hK=>?_
   refine tM ?_;go_simp;refine hK.out _ _ ?_ λhH=>?_
   ·exact⟨⟨A6 _ hH.1.1,A6 _ hH.1.2.1,A6 _ hH.1.2.2.1,A6 _ hH.1.2.2.2⟩,A6 _ hH.2.1,A6 _ hH.2.2.1,A6 _ hH.2.2.2⟩
   clear hK K;refine tL ?_;have hs5:wr.heap.size<=w5.heap.size:=Av.out.size;have Uv:Hid (DT w5 sb B Q.wb vr E1):=hid (Gj.out.keeps (A5.zQ Av.out []) (by simp) (λ_ _=>by simp));have HR5:Hid (w5.ownsRow B 201 5 vr kE (DW E1)):=hid (by rw[<-HKe.out];exact Uv.out.row);refine tS 38 λK hK=>?_
   refine tM ?_;rw[ay (by rfl)];refine mq _ (.tmp 17) (.tmp 50) 198 rfl B 201 iE (.agg #[ab 0,ab 0,ab 0,ab 0,ab 0]) 5 40 Tryz.underlying198 Xw aak aal aam rfl (by decide) vr _ _ rfl (HR5.out.alloc _) (af w5.heap.size 0) 1 1 [ab m,ab 2,ab x,ab nT,ab dx] rfl rfl (dn (fr:=(0,0)) (dz w5 _)) Gl (by omega) Bg (by omega) zG _ rfl ?_;intro g2 cap2 w7 hown hgrow hat Cu;refine hK.out _ _ ?_ λhH=>?_
   ·exact⟨⟨(hgrow.cell_far _ zG aaS).trans hH.1.1,(hgrow.cell_far _ zG aaS).trans hH.1.2.1,(hgrow.cell_far _ zG Yp).trans hH.1.2.2.1,(hgrow.cell_far _ zG Yp).trans hH.1.2.2.2⟩,(hgrow.cell_far _ zG (by exact ogR)).trans hH.2.1,(hgrow.cell_far _ zG Oz).trans hH.2.2.1,(hgrow.cell_far _ zG Oz).trans hH.2.2.2⟩
   clear hK K;refine tL ?_;refine tB 39 hH ?_;refine tB 40 hH ?_;refine tB 41 hH ?_;refine tL ?_;refine bq yM ?_ _;clear hH hb4 zP s0 s1 e0 e1 cx d0 d1;obtain⟨z1,z2,z3⟩:=Uv.out.add (e:=⟨m,2,x,nT,dx⟩) ((A5.refl w5 []).alloc _) hgrow (by rw[HKe.out];exact hown);have zc:w7.cell? (af sb 1)=some vr:=(A0 z1).trans rfl;have zf:=A7 (j:=1) z1;have HZ:=hid (And.intro z2 z3);have ab9:Hid (BN w5.heap.size vr (ae g2 (kE+1) cap2)):=hid (λg hg=>by
    obtain rfl:g2=g:=by simpa[Value.ownBlock] using hg
    rcases hat with h4 |h4
    ·exact .inl h4
    ·exact .inr aaM)
   clear z1 z2 z3 hown hgrow hat Cu;show wpList _ _ _ _ _ _;go_wp2;obtain⟨W5,Bj⟩:=qE (w7.setCell (af sb 1) (ae g2 (kE+1) cap2));rw[Bj]at HZ ⊢;clear Bj zc zf;go_wp2
   go_roundw
   case rel=>exact⟨m+1,_,by omega,by omega,by go_num,hid (by rw[HEn.out];exact HZ.out.1),hid (Sa.out.fresh (((A5.zQ Av.out []).mono (λq h=>by cases h)).trans HZ.out.2) HFr.out (zn _)),hid (HFr.out.trans ab9.out (by omega))⟩
   case measure=>simp[intOf];omega
  ·have hme:m=k:=by omega
   have Gj:Hid (DT wr sb B Q.wb vr (E++DY Q.T.N Q.row i (k - i))):=hid (by rw[<-hme];exact hsv.out);clear hsv hme;go_wp2
   go_end0
   exact⟨rfl,_,Gj.out,zW.out,hfr.out⟩
def LC (N:NG) (i x u:Nat):List Ab:=if FQ N x u=0 then []else [⟨i,3,x,u,FQ N x u⟩]
theorem eF  (hQ:Q.In w) {i u x:Nat} (hS:DT w sb B Q.wb v E) (hgB:Q.gp<B) (hBw:B<=w.heap.size) (hx:Q.row[i]?=some x) (hu:u<Q.T.N.nT) (hE:E.length<=4000200):
  Calls Tryz.prog 196 #[ac sb,ab i,ab u] w λe w'=>e=.returned (.tuple #[])/\∃v',DT w' sb B Q.wb v' (E++LC Q.T.N i x u)/\A5 w w' (sb::v.ownBlock.toList)/\BN w.heap.size v v':=by
 obtain⟨iE,Xw,aak,aal,aam⟩:=iy Tryz.infoB201;have Kh:=hQ.Gi;have Kf:=hQ.rl x (mG hx);have hiL:i<Q.row.length:=(zM.1 hx).1;have hsw:sb<w.heap.size:=ak hS.blk;have Cs:=hQ.At;have aa6:=hQ.Og;have hsB:=hS.sbB;obtain⟨aR,cR,Cn,Fy,hrc⟩:=hQ.aaf;obtain⟨gR,off,rfl,Nz,Oa⟩:=hrc (by omega);have cx:=Oa i x hx;have e0:w.cell? (af Q.wb 0)=some (ac Q.T.tb):=(A0 hQ.blk).trans rfl;have e1:w.cell? (af Q.wb 1)=some (.slice (some (af gR off)) Q.row.length cR):=by rw[<-Cn];exact(A0 hQ.blk).trans rfl
 have s0:w.cell? (af sb 0)=some (ac Q.wb):=(A0 hS.blk).trans rfl;obtain⟨L,hL⟩:=qF (Q.row.length);rw[<-hL]at e1 Fy hiL Kh;have HQ:Hid (∀V,Below w.heap.size w V->Q.In V):=hid λV hb=>hQ.below (hb.mono (by omega))
 obtain⟨kc,hkc⟩:=qE (FQ Q.T.N x u);have HK:Hid (∀V,Below w.heap.size w V->Calls Tryz.prog 219 #[ac Q.wb,ab x,ab u] V λe w'=>e=.returned (ab kc)/\Below V.heap.size V w'):=hid λV hb=>by
  have hV:=HQ.out V hb;have h:=RU hV.tab.fc.gr hV.tab.fc.ln hV.tab.tv ((A0 hV.blk).trans rfl) x u Kf hu;rw[hkc]at h;exact h
 have HE:Hid (LC Q.T.N i x u=if kc=0 then []else [⟨i,3,x,u,kc⟩]):=hid (by unfold LC;rw[hkc]);have HS:Hid (DT w sb B Q.wb v E):=hid hS;have akg:gR<w.heap.size:=by omega
 clear hQ hS hx Oa hrc Cn hL hkc Fy
 go_enter Tryz.func196,Tryz.ntmps196
 go_upto_region 0 with fail
 refine dy (S:=λw'=>w'.cell? (af sb 0)=some (ac Q.wb)/\w'.cell? (af Q.wb 1)=some (.slice (some (af gR off)) L cR)/\w'.cell? (af gR (off+i))=some (ab x)) yM ⟨s0,e1,cx⟩ (λhH=>?_);refine tB 0 hH ?_;refine tB 1 hH ?_;refine tB 2 hH ?_;refine tB 3 hH ?_;refine tB 4 hH ?_;refine tB 5 hH ?_;refine tB 6 hH ?_;refine tB 7 hH ?_;refine tB 8 hH ?_;refine tB 9 hH ?_;refine tB 10 hH ?_;refine tB 11 hH ?_;refine tB 12 hH ?_;refine tB 13 hH ?_;refine tB 14 hH ?_;refine tL ?_;refine tS 15 λK hK=>?_
 refine tM ?_
 go_simp;refine(HK.out _ (ah _ w).drew).mono ?_;rintro e w4 ⟨rfl,hb4⟩;try dsimp only
 refine hK.out _ _ ?_ λhH=>?_
 ·exact⟨A8 hb4 hH.1,A8 hb4 hH.2.1,A8 hb4 hH.2.2⟩
 clear hK K;refine tB 16 hH ?_;refine tL ?_;refine bq yM ?_ _;have Bk:Hid (Below w.heap.size w w4):=hid ((ah _ w).drew.trans hb4);have Fx:=hb4.size;have Fx:w.heap.size<=w4.heap.size:=Fx;have hsv:DT w4 sb B Q.wb v E:=HS.out.keeps (A5.zQ Bk.out []) (by simp) (λ_ _=>by simp);clear hH hb4
 by_cases h0:kc=0
 ·have hk0:¬((0:Int)< (kc:Int)):=by omega
  have Ba:Hid (E++LC Q.T.N i x u=E):=hid (by rw[HE.out,ay h0,fy]);have Kc:=hid hsv;clear h0 hsv;go_wp2
  go_end0
  exact⟨rfl,v,by rw[Ba.out];exact Kc.out,A5.zQ Bk.out _,BN.refl _ _⟩
 ·have hk0:((0:Int)< (kc:Int)):=by omega
  have Ba:Hid (E++LC Q.T.N i x u=E++ [⟨i,3,x,u,kc⟩]):=hid (by rw[HE.out,aq h0]);obtain⟨kE,Jq⟩:=qE (E.length);rw[Jq]at hE;have hrow:w4.ownsRow B 201 5 v kE (DW E):=by rw[<-Jq];exact hsv.row
  have ogS:some sb≠v.ownBlock:=λe=>A9 hrow hsv.blk (by decide) e.symm
  have ogW:some Q.wb≠v.ownBlock:=λe=>by have:=(hrow.lt _ e.symm).1;omega
  have ogR:some gR≠v.ownBlock:=λe=>by have:=(hrow.lt _ e.symm).1;omega
  have t0:w4.cell? (af sb 0)=some (ac Q.wb):=(A0 hsv.blk).trans rfl;have t1:w4.cell? (af sb 1)=some v:=(A0 hsv.blk).trans rfl;have t2:=A8 Bk.out e1;have t3:=A8 Bk.out cx;have Dl:=hid hrow;have Kc:=hid hsv;have HKe:=hid Jq;clear h0 hsv hrow Jq s0 e0 e1 cx
  go_upto_region 2 with fail
  refine AH (λw'=>w'.cell? (af sb 0)=some (ac Q.wb)/\w'.cell? (af sb 1)=some v/\w'.cell? (af Q.wb 1)=some (.slice (some (af gR off)) L cR)/\w'.cell? (af gR (off+i))=some (ab x)) hmx yM ⟨t0,t1,t2,t3⟩ (λhH=>?_);simp only[AG,BP,AR];refine tB 0 hH ?_;refine tB 1 hH ?_;refine tB 2 hH ?_;refine tB 3 hH ?_;refine tB 4 hH ?_;refine tB 5 hH ?_;refine tB 6 hH ?_;refine tB 7 hH ?_;refine tB 8 hH ?_;refine tB 9 hH ?_;refine tB 10 hH ?_;refine tB 11 hH ?_;refine tB 12 hH ?_;refine tB 13 hH ?_;refine tB 14 hH ?_;refine tB 15 hH ?_;refine tB 16 hH ?_;refine tB 17 hH ?_;refine tB 18 hH ?_;refine tL ?_;refine tS 19 λK hK=>?_
  refine tM ?_;go_simp;refine hK.out _ _ ?_ λhH=>?_
  ·exact⟨A6 _ hH.1,A6 _ hH.2.1,A6 _ hH.2.2.1,A6 _ hH.2.2.2⟩
  clear hK K;refine tL ?_;refine tS 20 λK hK=>?_
  refine tM ?_;rw[ay (by rfl)];refine mq _ (.tmp 29) (.tmp 44) 198 rfl B 201 iE (.agg #[ab 0,ab 0,ab 0,ab 0,ab 0]) 5 40 Tryz.underlying198 Xw aak aal aam rfl (by decide) v _ _ rfl (Dl.out.alloc _) (af w4.heap.size 0) 1 1 [ab i,ab 3,ab x,ab u,ab kc] rfl rfl (dn (fr:=(0,0)) (dz w4 _)) Gl (by omega) Bg (by omega) zG _ rfl ?_;intro g2 cap2 w7 hown hgrow hat Cu;refine hK.out _ _ ?_ λhH=>?_
  ·exact⟨(hgrow.cell_far _ zG aaS).trans hH.1,(hgrow.cell_far _ zG aaS).trans hH.2.1,(hgrow.cell_far _ zG Yp).trans hH.2.2.1,(hgrow.cell_far _ zG (by exact ogR)).trans hH.2.2.2⟩
  clear hK K;refine tL ?_;refine tB 21 hH ?_;refine tB 22 hH ?_;refine tB 23 hH ?_;refine tL ?_;refine bq yM ?_ _;clear hH t0 t1 t2 t3;obtain⟨z1,z2,z3⟩:=Kc.out.add (Wa:=(w4.alloc (.cells #[ab i,ab 3,ab x,ab u,ab kc] 201)).drew) (e:=⟨i,3,x,u,kc⟩) ((A5.refl w4 []).alloc _).drew hgrow (by rw[HKe.out];exact hown);have zc:w7.cell? (af sb 1)=some v:=(A0 z1).trans rfl;have zf:=A7 (j:=1) z1;have HZ:=hid (And.intro z2 z3);have ab9:Hid (BN w4.heap.size v (ae g2 (kE+1) cap2)):=hid (λg hg=>by
   obtain rfl:g2=g:=by simpa[Value.ownBlock] using hg
   rcases hat with h4 |h4
   ·exact .inl h4
   ·exact .inr aaM)
  clear z1 z2 z3 hown hgrow hat Cu;show wpList _ _ _ _ _ _;go_wp2;obtain⟨W5,Bj⟩:=qE (w7.setCell (af sb 1) (ae g2 (kE+1) cap2));rw[Bj]at HZ ⊢;clear Bj zc zf;go_wp2
  go_end0
  exact⟨rfl,_,by rw[Ba.out];exact HZ.out.1,((A5.zQ Bk.out []).mono (λq h=>by cases h)).trans HZ.out.2,(BN.refl w.heap.size v).trans ab9.out (by omega)⟩
theorem p4 {g x1 x2:Nat}{y:Wt} (h:w.heap[g]?=some (.cells #[ab x1,ab x2] 313 (0,0))):
  Calls Tryz.prog 191 #[ac g,Dt y] w λe w'=>e=.returned (.bool (decide (At y (x1,x2))))/\w'.heap[g]?=some (.cells #[ab (BS (x1,x2) y).1,ab (BS (x1,x2) y).2] 313 (0,0))/\A5 w w' [g]:=by
 obtain⟨y1,y2⟩:=y;refine(RR g 0 x1 x2 y1 y2 w ((A0 h).trans rfl) ((A0 h).trans rfl) (λj=>A7 h)).mono ?_;rintro e w' ⟨rfl,w1,hb,hw⟩;have h1:w1.heap[g]?=some (.cells #[ab x1,ab x2] 313 (0,0)):=(hb.block g (ak h)).trans h;refine⟨rfl,?_⟩;rw[LR]
 by_cases hl:At (y1,y2) (x1,x2)
 ·rw[ay hl]at hw ⊢
  subst hw;exact⟨AA (j:=1) (AA (j:=0) h1 _) _,(A5.zQ hb [g]).trans (((A5.refl w1 [g]).setCell (by simp) _).setCell (by simp) _)⟩
 ·rw[aq hl]at hw ⊢
  subst hw;exact⟨h1,A5.zQ hb _⟩
def FG (f:Nat->Wt):Nat->Wt × Nat
 |0=>((AJ,0),0)
 |i+1=>if At (f i) (FG f i).1 then(f i,i)else FG f i
theorem i8 (f:Nat->Wt):∀(n:Nat),Ao (FG f n).1 (AJ,0)/\(FG f n).2<=n - 1/\∀i,i<n->Ao (FG f n).1 (f i)
 |0=>⟨FV _,zn _,λi h=>by omega⟩
 |n+1=>by
  obtain⟨h1,h2,h3⟩:=i8 f n;unfold FG
  by_cases h:At (f n) (FG f n).1
  ·rw[ay h]
   have h4:Ao (f n) (FG f n).1:=by unfold At at h;unfold Ao;omega
   refine⟨GU h4 h1,by show n<=n;omega,λi hi=>?_⟩
   by_cases e:i=n
   ·subst e;exact FV _
   ·exact GU h4 (h3 i (by omega))
  ·rw[aq h]
   refine⟨h1,by omega,λi hi=>?_⟩
   by_cases e:i=n
   ·subst e;exact gB h
   ·exact h3 i (by omega)
theorem gJ (f:Nat->Wt):∀(n:Nat),(FG f n).1=(AJ,0)\/(0<n/\(FG f n).1=f (FG f n).2)
 |0=>.inl rfl
 |n+1=>by
  unfold FG
  by_cases h:At (f n) (FG f n).1
  ·rw[ay h];exact .inr ⟨by omega,rfl⟩
  ·rw[aq h]
   rcases gJ f n with h1 |h1
   ·exact .inl h1
   ·exact .inr ⟨by omega,h1.2⟩
def E8 (Q:Aq) (cn:Nat->Nat->Nat->Wt) (a:Nat):Wt:=GO (cn 0 0 a) (EH Q.T.N Q.row a Q.row.length,0)
theorem VY  (hQ:Q.In w) {cn:Nat->Nat->Nat->Wt} (hS:DT w sb B Q.wb v E) (hgB:Q.gp<B) (hBw:B<=w.heap.size) (hc:Hu cn) (hn:∀a,a<=Q.row.length->Jn Q w B 0 a (λn=>cn n 0 a)):
  Calls Tryz.prog 145 #[ac sb] w λe w'=>e=.returned (ab (FG (E8 Q cn) (Q.row.length+1)).2)/\Below w.heap.size w w':=by
 have Kh:=hQ.Gi;have hsw:sb<w.heap.size:=ak hS.blk;have Cs:=hQ.At;have aa6:=hQ.Og;have ab1:Q.T.tb<w.heap.size:=hQ.tab.bd.tb;obtain⟨aR,cR,Cn,Fy,_⟩:=hQ.aaf;have e0:w.cell? (af Q.wb 0)=some (ac Q.T.tb):=(A0 hQ.blk).trans rfl;have e1:w.cell? (af Q.wb 1)=some (.slice aR Q.row.length cR):=by rw[<-Cn];exact(A0 hQ.blk).trans rfl
 have s0:w.cell? (af sb 0)=some (ac Q.wb):=(A0 hS.blk).trans rfl;obtain⟨d0,d1,_⟩:=hQ.tab.tv.Cq;have HQ:Hid (∀V,Below B w V->Q.In V):=hid λV hb=>hQ.below (hb.mono (by omega))
 have Mf:Hid (∀V a,Below B w V->a<=Q.row.length->Jn Q V B 0 a (λn=>cn n 0 a)):=hid λV a hb ha=>(hn a ha).below hb hgB
 have HN0:Hid (0<Q.T.N.nN):=hid hQ.tab.fc.gr.ok.pos;have ahn:Hid (Q.T.N.Ok/\∀x∈Q.row,x<Q.T.N.nT):=hid ⟨hQ.tab.fc.gr.ok,hQ.rl⟩;have HC:Hid (Hu cn):=hid hc;obtain⟨nT,Ac⟩:=qF (Q.T.N.nT);obtain⟨nN,zT⟩:=qF (Q.T.N.nN);obtain⟨L,hL⟩:=qF (Q.row.length);rw[<-Ac]at d0;rw[<-zT]at d1;rw[<-hL]at e1 Fy Kh;obtain⟨L1,Fh⟩:=qF (L+1);have hLi:IntKind.i64.wrap ((L:Int)+1)=(L1:Int):=by rw[Db];omega
 have amm:L1<=101:=by omega
 have HL:Hid (L=Q.row.length/\L1=L+1):=hid ⟨hL,Fh⟩;clear hQ hS hc hn Ac zT hL Fh Cn Fy
 go_enter Tryz.func145,Tryz.ntmps145
 have s0':(w.alloc (.cells #[ab 1048576,ab 0] 313)).cell? (af sb 0)=some (ac Q.wb):=A6 _ s0;have e1':(w.alloc (.cells #[ab 1048576,ab 0] 313)).cell? (af Q.wb 1)=some (.slice aR L cR):=A6 _ e1;go_wp2;obtain⟨W,hW⟩:=qE (w.alloc (.cells #[ab 1048576,ab 0] 313));have Rm:A5 w W []:=by rw[<-hW];exact(A5.refl w []).alloc _
 have hlW:W.heap[w.heap.size]?=some (.cells #[ab 1048576,ab 0] 313 (0,0)):=by rw[<-hW];exact bg w _
 have hsW:w.heap.size<W.heap.size:=ak hlW;rw[hW];have Wz:=hid Rm;have HLW:=hid hlW;clear hW s0' e1' Rm hlW hLi
 go_loopw [4,16] (λev z wr=>∃(i:Nat),i<=L1/\ev=ab ((FG (E8 Q cn) i).2:Nat)/\z=ab i/\Hid (A5 W wr [w.heap.size])/\Hid (wr.heap[w.heap.size]?=some (.cells #[ab (FG (E8 Q cn) i).1.1,ab (FG (E8 Q cn) i).1.2] 313 (0,0)))) (λ_ z _=>L1 - (intOf z).toNat)
 case atStart=>exact⟨0,dh _,rfl,rfl,hid (A5.refl _ _),HLW⟩
 case round=>
  obtain⟨i,hi,rfl,rfl,zW,Bz⟩:=hrel;have Ah:Hid (Below w.heap.size w wr):=hid ((Wz.out.below (zn _) (λq h=>by cases h)).trans (zW.out.below (by omega) (λq hq=>by rw[mS.1 hq];exact zn _)))
  by_cases hlt:i<L1
  ·obtain⟨m1,hm1⟩:=qE ((FG (E8 Q cn) i).1.1)
   obtain⟨m2,hm2⟩:=qE ((FG (E8 Q cn) i).1.2);obtain⟨ev,hev⟩:=qE ((FG (E8 Q cn) i).2);rw[hm1,hm2]at Bz;rw[hev];have HM:Hid (FG (E8 Q cn) i=((m1,m2),ev)):=hid (xe (xe hm1 hm2) hev);have hcb:=HC.out 0 0 i;unfold AJ GH at hcb;obtain⟨c1,hc1⟩:=qE ((cn 0 0 i).1);obtain⟨c2,hc2⟩:=qE ((cn 0 0 i).2);rw[hc1,hc2]at hcb;obtain⟨amn,akh⟩:=hcb;have hLr:=HL.out.1;have aki:=HL.out.2;have hab:=NP (N:=Q.T.N) Q.row (show i<=Q.row.length by omega);obtain⟨hab,hdc⟩:=hab;have hds:=K1 ahn.out.1 ahn.out.2 (by omega) Q.row.length;obtain⟨dc,aag⟩:=qE (EH Q.T.N Q.row i Q.row.length);have ajF:dc<=9900:=by omega
   rw[aag]at hdc;have Ga:∀V,Below wr.heap.size wr V->Below B w V:=λV hb=>(Ah.out.mono hBw).trans (hb.mono (by have:=Ah.out.size;omega))
   have H15:Hid (∀V,Calls Tryz.prog 118 #[.agg #[.slice Q.T.yZ nT Q.T.yT,ae Q.T.gN nN Q.T.yQ]] V λe w'=>e=.returned (.agg #[.bool true,ab 0])/\Below V.heap.size V w'):=hid λV=>O3 _ _ V
   have H17:Hid (∀V,Below wr.heap.size wr V->Calls Tryz.prog 192 #[ac Q.wb,.agg #[.bool true,ab 0],ab 0,ab i] V λe w'=>e=.returned (.agg #[ab c1,ab c2])/\Below V.heap.size V w'):=hid λV hb=>by
    have h:=VH (HQ.out V (Ga V hb)) (p:=.zi 0) (i:=0) (k:=i) (cn:=cn) HN0.out (dh _) (by omega) (λn e=>by cases e;exact Mf.out V i (Ga V hb) (by omega)) (by have:=(Ga V hb).size;omega);rw[show D9 Q.T.N Q.row cn (.zi 0) 0 i=(c1,c2) from xe hc1 hc2]at h;exact h
   have H31:Hid (∀V,Below wr.heap.size wr V->Calls Tryz.prog 194 #[ac Q.wb,ab i,ab L] V λe w'=>e=.returned (ab dc)/\Below V.heap.size V w'):=hid λV hb=>by
    have hV:=HQ.out V (Ga V hb);have h:=NA V Q.wb Q.gd (Q.row.length+1) Q.cd i Q.row.length _ _ ((A0 hV.blk).trans rfl) (by omega) (by omega) (by omega) (hV.Uz i (by omega)) (hV.Uz Q.row.length (zn _)) hab (by omega);rw[hdc,<-hLr]at h;exact h
   obtain⟨y,hy⟩:=qE (GO (c1,c2) (dc,0));obtain⟨y1,y2⟩:=y;have H33:Hid (∀V,Calls Tryz.prog 193 #[.agg #[ab c1,ab c2],.agg #[ab dc,ab 0]] V λe w'=>e=.returned (.agg #[ab y1,ab y2])/\Below V.heap.size V w'):=hid λV=>by
    have h:=R7 c1 c2 dc 0 (by omega) akh (by omega) V;rw[hy]at h;exact h
   have HY:Hid (E8 Q cn i=(y1,y2)):=hid (by unfold E8;rw[aag,<-hy,show cn 0 0 i=(c1,c2) from xe hc1 hc2]);have Nn:Hid (FG (E8 Q cn) (i+1)=if At (y1,y2) (m1,m2)then((y1,y2),i)else((m1,m2),ev)):=hid (by
    show(if At (E8 Q cn i) (FG (E8 Q cn) i).1 then(E8 Q cn i,i)else FG (E8 Q cn) i)=_;rw[HM.out,HY.out])
   have t0:=(Ah.out.cell (p:=(af sb 0)) (by exact hsw)).trans s0;have t1:=(Ah.out.cell (p:=(af Q.wb 0)) Iv).trans e0;have t2:=(Ah.out.cell (p:=(af Q.wb 1)) Iv).trans e1;have t3:=(Ah.out.cell (p:=(af Q.T.tb 0)) (by exact ab1)).trans d0;have t4:=(Ah.out.cell (p:=(af Q.T.tb 1)) (by exact ab1)).trans d1;have Xx:w.heap.size<wr.heap.size:=by have:=zW.out.size;omega
   clear hm1 hm2 hev hc1 hc2 hLr aki hab hdc hds aag Ga hy
   go_upto_region 5 with fail
   refine dy (S:=λw'=>w'.cell? (af sb 0)=some (ac Q.wb)/\w'.cell? (af Q.wb 0)=some (ac Q.T.tb)/\w'.cell? (af Q.wb 1)=some (.slice aR L cR)/\w'.cell? (af Q.T.tb 0)=some (.slice Q.T.yZ nT Q.T.yT)/\w'.cell? (af Q.T.tb 1)=some (ae Q.T.gN nN Q.T.yQ)) yM ⟨t0,t1,t2,t3,t4⟩ (λhH=>?_);refine tB 0 hH ?_;refine tB 1 hH ?_;refine tB 2 hH ?_;refine tB 3 hH ?_;refine tB 4 hH ?_;refine tB 5 hH ?_;refine tB 6 hH ?_;refine tB 7 hH ?_;refine tB 8 hH ?_;refine tB 9 hH ?_;refine tB 10 hH ?_;refine tB 11 hH ?_;refine tB 12 hH ?_;refine tB 13 hH ?_;refine tB 14 hH ?_;refine tB 16 hH ?_;refine tB 18 hH ?_;refine tB 19 hH ?_;refine tB 20 hH ?_;refine tB 21 hH ?_;refine tB 22 hH ?_;refine tB 23 hH ?_;refine tB 24 hH ?_;refine tB 25 hH ?_;refine tB 26 hH ?_;refine tB 27 hH ?_;refine tB 28 hH ?_;refine tB 29 hH ?_;refine tB 30 hH ?_;refine tL ?_;refine tS 15 λK hK=>?_
   refine tM ?_
   go_simp;refine(H15.out _).mono ?_;rintro e w1 ⟨rfl,hb1⟩;try dsimp only
   refine hK.out _ _ ?_ λhH=>?_
   ·exact⟨A8 hb1 hH.1,A8 hb1 hH.2.1,A8 hb1 hH.2.2.1,A8 hb1 hH.2.2.2.1,A8 hb1 hH.2.2.2.2⟩
   clear hK K;refine tL ?_;have G1:Hid (Below wr.heap.size wr w1):=hid ((ah _ wr).drew.trans hb1);refine tS 17 λK hK=>?_
   refine tM ?_
   go_simp;refine(H17.out _ G1.out).mono ?_;rintro e w2 ⟨rfl,hb2⟩;try dsimp only
   refine hK.out _ _ ?_ λhH=>?_
   ·exact⟨A8 hb2 hH.1,A8 hb2 hH.2.1,A8 hb2 hH.2.2.1,A8 hb2 hH.2.2.2.1,A8 hb2 hH.2.2.2.2⟩
   clear hK K;refine tL ?_;have G2:Hid (Below wr.heap.size wr w2):=hid (G1.out.trans (hb2.mono G1.out.size));refine tS 31 λK hK=>?_
   refine tM ?_
   go_simp;refine(H31.out _ G2.out).mono ?_;rintro e w3 ⟨rfl,hb3⟩;try dsimp only
   refine hK.out _ _ ?_ λhH=>?_
   ·exact⟨A8 hb3 hH.1,A8 hb3 hH.2.1,A8 hb3 hH.2.2.1,A8 hb3 hH.2.2.2.1,A8 hb3 hH.2.2.2.2⟩
   clear hK K;refine tL ?_;have G3:Hid (Below wr.heap.size wr w3):=hid (G2.out.trans (hb3.mono G2.out.size));refine tB 32 hH ?_;refine tL ?_;refine tS 33 λK hK=>?_
   refine tM ?_
   go_simp;refine(H33.out _).mono ?_;rintro e w4 ⟨rfl,hb4⟩;try dsimp only
   refine hK.out _ _ ?_ λhH=>?_
   ·exact⟨A8 hb4 hH.1,A8 hb4 hH.2.1,A8 hb4 hH.2.2.1,A8 hb4 hH.2.2.2.1,A8 hb4 hH.2.2.2.2⟩
   clear hK K;refine tL ?_;have G4:Hid (Below wr.heap.size wr w4):=hid (G3.out.trans (hb4.mono G3.out.size));have H34:Hid (Calls Tryz.prog 191 #[ac w.heap.size,.agg #[ab y1,ab y2]] w4 λe w'=>e=.returned (.bool (decide (At (y1,y2) (m1,m2))))/\w'.heap[w.heap.size]?=some (.cells #[ab (BS (m1,m2) (y1,y2)).1,ab (BS (m1,m2) (y1,y2)).2] 313 (0,0))/\A5 w4 w' [w.heap.size]):=hid (p4 (y:=(y1,y2)) ((G4.out.block _ Xx).trans Bz.out));have Fx:=G4.out.size;refine tS 34 λK hK=>?_
   refine tM ?_
   go_simp;refine H34.out.mono ?_;rintro e w5 ⟨rfl,Zw,Ag⟩;try dsimp only
   refine hK.out _ _ ?_ λhH=>?_
   ·exact⟨(Ag.cell (by show sb<w4.heap.size;omega) zG).trans hH.1,(Ag.cell aaD zG).trans hH.2.1,(Ag.cell aaD zG).trans hH.2.2.1,(Ag.cell (by show Q.T.tb<w4.heap.size;omega) zG).trans hH.2.2.2.1,(Ag.cell (by show Q.T.tb<w4.heap.size;omega) zG).trans hH.2.2.2.2⟩
   clear hK K;refine tL ?_;refine bq yM ?_ _;have Hq:Hid (A5 W w5 [w.heap.size]):=hid (zW.out.trans (((A5.zQ G4.out []).mono (λq h=>by cases h)).trans Ag));have HL5:=hid Zw;clear hH hb1 hb2 hb3 hb4 Ag Zw zW Bz t0 t1 t2 t3 t4
   by_cases hw:At (y1,y2) (m1,m2)
   ·rw[iz hw]
    have e:=Nn.out;rw[ay hw]at e;have HR:Hid (FG (E8 Q cn) (i+1)=((y1,y2),i)):=hid e;have HL6:Hid (w5.heap[w.heap.size]?=some (.cells #[ab y1,ab y2] 313 (0,0))):=hid (by have h:=HL5.out;rw[LR,ay hw]at h;exact h);clear e hw;go_wp2
    go_roundw
    case rel=>exact⟨i+1,by omega,by rw[HR.out],by go_num,Hq,by rw[HR.out];exact HL6⟩
    case measure=>simp[intOf];omega
   ·rw[gy hw]
    have e:=Nn.out;rw[aq hw]at e;have HR:Hid (FG (E8 Q cn) (i+1)=((m1,m2),ev)):=hid e;have HL6:Hid (w5.heap[w.heap.size]?=some (.cells #[ab m1,ab m2] 313 (0,0))):=hid (by have h:=HL5.out;rw[LR,aq hw]at h;exact h);clear e hw;go_wp2
    go_roundw
    case rel=>exact⟨i+1,by omega,by rw[HR.out],by go_num,Hq,by rw[HR.out];exact HL6⟩
    case measure=>simp[intOf];omega
  ·have Xw:i=L1:=by omega
   have HE:Hid (i=Q.row.length+1):=hid Yo;clear Bz zW;go_wp2;go_ret;exact⟨by rw[<-HE.out];rfl,Ah.out⟩
theorem ae9 {P:Prop} (h:P:=by
  exact⟨⟨A8 hb1 hH.1.1,A8 hb1 hH.1.2.1,A8 hb1 hH.1.2.2⟩,A8 hb1 hH.2.1,A8 hb1 hH.2.2.1,A8 hb1 hH.2.2.2.1,A8 hb1 hH.2.2.2.2⟩):P:=h
theorem cZ {V:World}{pb nb gn gq nN nQ n h c1 c2 t1 t2:Nat} (Wj:V.cell? (af pb 0)=some (ae gn nN nN)) (Dn:V.cell? (af pb 1)=some (ae gq nQ nQ)) (hn:V.cell? (af nb 0)=some (ab n))
  (zT:n<nN) (hhQ:h<nQ) (_:nN<=1000) (_:nQ<=1000) (k1:V.cell? (af gn (n*2))=some (ab c1)) (k2:V.cell? (af gn (n*2+1))=some (ab c2)) (k3:V.cell? (af gq (h*2))=some (ab t1)) (k4:V.cell? (af gq (h*2+1))=some (ab t2))
  (Gq:t1<=4611686018427387000) (Jc:t2<=939524097):
  Calls Tryz.prog 221 #[ab h,ac pb,ac nb] V λe w'=>e=.returned (.bool (decide (named (t1,t2)=(c1,c2))))/\Below V.heap.size V w':=by
 have hhi:((h:Int)< (nQ:Int)):=by omega
 have hni:((n:Int)< (nN:Int)):=by omega
 have Mf:Hid (∀V,Calls Tryz.prog 222 #[.agg #[ab t1,ab t2]] V λe w'=>e=.returned (Dt (named (t1,t2)))/\Below V.heap.size V w'):=hid λV=>WO t1 t2 (by omega) Jc V
 obtain⟨y,hy⟩:=qE (named (t1,t2));obtain⟨y1,y2⟩:=y;rw[hy]at Mf ⊢;clear hy
 by_cases e1:y1=c1
 ·subst e1
  by_cases e2:y2=c2
  ·subst e2
   go_enter Tryz.func221,Tryz.ntmps221
   go_upto_region 1 with fail
   refine dy (S:=λw'=>(w'.cell? (af pb 0)=some (ae gn nN nN)/\w'.cell? (af pb 1)=some (ae gq nQ nQ)/\w'.cell? (af nb 0)=some (ab n))/\w'.cell? (af gn (n*2))=some (ab y1)/\w'.cell? (af gn (n*2+1))=some (ab y2)/\w'.cell? (af gq (h*2))=some (ab t1)/\w'.cell? (af gq (h*2+1))=some (ab t2)) yM ⟨⟨Wj,Dn,hn⟩,k1,k2,k3,k4⟩ (λhH=>?_);refine tB 0 hH ?_;refine tB 1 hH ?_;refine tB 2 hH ?_;refine tB 3 hH ?_;refine tB 4 hH ?_;refine tB 6 hH ?_;refine tB 7 hH ?_;refine tB 8 hH ?_;refine tB 9 hH ?_;refine tB 10 hH ?_;refine tL ?_;refine tS 5 λK hK=>?_
   refine tM ?_
   go_simp;refine(Mf.out _).mono ?_;rintro e w1 ⟨rfl,hb1⟩;unfold Dt;try dsimp only
   refine hK.out _ _ ?_ λhH=>?_
   ·exact ae9
   clear hK K;refine tB 11 hH ?_;refine tB 12 hH ?_;refine tL ?_;refine bq yM ?_ _;have zL:Hid (Below V.heap.size V w1):=hid ((ah _ V).drew.trans hb1);clear hH hb1;go_wp2;go_ret;exact⟨rfl,zL.out⟩
  ·have e3:¬((y2:Int)=(c2:Int)):=by omega
   go_enter Tryz.func221,Tryz.ntmps221
   go_upto_region 1 with fail
   refine dy (S:=λw'=>(w'.cell? (af pb 0)=some (ae gn nN nN)/\w'.cell? (af pb 1)=some (ae gq nQ nQ)/\w'.cell? (af nb 0)=some (ab n))/\w'.cell? (af gn (n*2))=some (ab y1)/\w'.cell? (af gn (n*2+1))=some (ab c2)/\w'.cell? (af gq (h*2))=some (ab t1)/\w'.cell? (af gq (h*2+1))=some (ab t2)) yM ⟨⟨Wj,Dn,hn⟩,k1,k2,k3,k4⟩ (λhH=>?_);refine tB 0 hH ?_;refine tB 1 hH ?_;refine tB 2 hH ?_;refine tB 3 hH ?_;refine tB 4 hH ?_;refine tB 6 hH ?_;refine tB 7 hH ?_;refine tB 8 hH ?_;refine tB 9 hH ?_;refine tB 10 hH ?_;refine tL ?_;refine tS 5 λK hK=>?_
   refine tM ?_
   go_simp;refine(Mf.out _).mono ?_;rintro e w1 ⟨rfl,hb1⟩;unfold Dt;try dsimp only
   refine hK.out _ _ ?_ λhH=>?_
   ·exact ae9
   clear hK K;refine tB 11 hH ?_;refine tB 12 hH ?_;refine tL ?_;refine bq yM ?_ _;have zL:Hid (Below V.heap.size V w1):=hid ((ah _ V).drew.trans hb1);clear hH hb1;go_wp2;go_ret;exact⟨by rw[gy (λh=>e2 (by injection h))];rfl,zL.out⟩
 ·have e3:¬((y1:Int)=(c1:Int)):=by omega
  go_enter Tryz.func221,Tryz.ntmps221
  go_upto_region 1 with fail
  refine dy (S:=λw'=>(w'.cell? (af pb 0)=some (ae gn nN nN)/\w'.cell? (af pb 1)=some (ae gq nQ nQ)/\w'.cell? (af nb 0)=some (ab n))/\w'.cell? (af gn (n*2))=some (ab c1)/\w'.cell? (af gn (n*2+1))=some (ab c2)/\w'.cell? (af gq (h*2))=some (ab t1)/\w'.cell? (af gq (h*2+1))=some (ab t2)) yM ⟨⟨Wj,Dn,hn⟩,k1,k2,k3,k4⟩ (λhH=>?_);refine tB 0 hH ?_;refine tB 1 hH ?_;refine tB 2 hH ?_;refine tB 3 hH ?_;refine tB 4 hH ?_;refine tB 6 hH ?_;refine tB 7 hH ?_;refine tB 8 hH ?_;refine tB 9 hH ?_;refine tB 10 hH ?_;refine tL ?_;refine tS 5 λK hK=>?_
  refine tM ?_
  go_simp;refine(Mf.out _).mono ?_;rintro e w1 ⟨rfl,hb1⟩;unfold Dt;try dsimp only
  refine hK.out _ _ ?_ λhH=>?_
  ·exact ae9
  clear hK K;refine tB 11 hH ?_;refine tB 12 hH ?_;refine tL ?_;refine bq yM ?_ _;have zL:Hid (Below V.heap.size V w1):=hid ((ah _ V).drew.trans hb1);clear hH hb1;go_wp2;go_ret;exact⟨by rw[gy (λh=>e1 (by injection h))];rfl,zL.out⟩
theorem iY {l:List Nat} (hv:Em w B v l) (hB:B<=w.heap.size) (hl:l.length<=1000) {cf:Nat}{lb:Array Value}{p:Nat->Bool} (he:∀args W,(callFunc cf args).run Tryz.prog W=.ok (.enter cf args) W)
  (hcf:∀V x,x∈l->Below w.heap.size w V->Calls Tryz.prog cf (#[ab (x:Int)]++lb) V λe w'=>e=.returned (.bool (p x))/\Below V.heap.size V w') (hex:∃x∈l,p x=true):
  Calls Tryz.prog 220 #[v,.func (.func cf) #[] lb] w λe w'=>∃i x:Nat,e=.returned (ab i)/\l[i]?=some x/\p x=true/\Below w.heap.size w w':=by
 obtain⟨ad,cap,rfl,hcap,hc⟩:=hv;obtain⟨n,hn⟩:=qF (l.length);rw[<-hn]at hcap hc hl ⊢;have HN:=hid hn;have HC:=hid hc;have HF:=hid hcf;have HE:=hid hex;clear hc hcf hex hn
 go_enter Tryz.func220,Tryz.ntmps220
 go_wp2
 go_loopw [8] (λz wr=>∃j:Nat,j<=n/\z=ab j/\Hid (∀(m:Nat) x,m<j->l[m]?=some x->p x=false)/\Hid (Below w.heap.size w wr)) (λz _=>n - (intOf z).toNat)
 case atStart=>exact⟨0,dh _,rfl,hid (λm x h=>by omega),hid (ah _ _)⟩
 case round=>
  obtain⟨j,hj,rfl,hno,hb⟩:=hrel
  by_cases hlt:j<n
  ·obtain⟨x,hx⟩:∃x,l[j]?=some x:=⟨_,gE abg⟩
   obtain⟨g,off,rfl,hgB,Er⟩:=HC.out (by omega);have cx:=(hb.out.cell (p:=(af g (off+j))) Jt).trans (Er j x hx);have CC:=HF.out wr x (mG hx) hb.out;have HX:=hid hx;clear hx Er;cases hp:p x
   ·rw[hp]at CC
    have HNo:Hid (∀(m:Nat) y,m<j+1->l[m]?=some y->p y=false):=hid λm y hm hy=>by
     rcases jz m j with h |h
     ·exact hno.out m y h hy
     ·obtain rfl:m=j:=by omega
      rw[HX.out]at hy;injection hy with hy;rw[<-hy];exact hp
    go_wp2_with (refine CC.mono ?_;rintro e w2 ⟨rfl,hb2⟩;have zO:=hid (hb.out.trans (hb2.mono hb.out.size));clear hb2 CC)
    go_roundw
    case rel=>exact⟨j+1,by omega,by go_num,HNo,zO⟩
    case measure=>simp[intOf];omega
   ·rw[hp]at CC
    go_wp2_with (refine CC.mono ?_;rintro e w2 ⟨rfl,hb2⟩;have zO:=hid (hb.out.trans (hb2.mono hb.out.size));clear hb2 CC)
    go_ret;exact⟨j,x,rfl,HX.out,hp,zO.out⟩
  ·exfalso
   obtain⟨x,hx,hp⟩:=HE.out;obtain⟨m,hm,he⟩:=jv.1 hx;have h1:=hno.out m x La (by rw[gE hm,he]);rw[hp]at h1;cases h1
end Go.Proofs.YtjjggdcnpndgjaaGreatDoor
