import Derived.Test.YtjjggdcnpndgjabGreatDoorJ34
set_option linter.unusedSimpArgs false
set_option maxHeartbeats 8000000
set_option maxRecDepth 100000
namespace Go.Proofs.YtjjggdcnpndgjabGreatDoor
open Go.RowKit Go.Shelf
variable {B sb:Nat}{E:List EdP}{Q:Wts}{v:Value}{w:World}
theorem aS (N:NG) (row:List Nat) (i n x:Nat) (h:row[i+n]?=some x):DO N row i (n+1)=DO N row i n++ [⟨i+n,2,x,N.nT,N.drop x⟩]:=by
 unfold DO;rw[List.range_succ,List.map_append,List.map_singleton,gD_,h];rfl
theorem SU (N:NG) (row:List Nat) (i n:Nat):(DO N row i n).length=n:=by unfold DO;simp
theorem RO  (hQ:Q.In w) {i k:Nat} (hS:DH w sb B Q.wb v E) (hgB:Q.gp<B) (hBw:B<=w.heap.size) (hik:i<=k) (hk:k<=Q.row.length) (hE:E.length<=4000000):
  Calls Tryz.prog 52 #[ac sb,ab i,ab k] w fun e w'=>e=.returned (.tuple #[])/\∃v',DH w' sb B Q.wb v' (E++DO Q.T.N Q.row i (k - i))/\A1 w w' (sb::v.ownBlock.toList)/\BH w.heap.size v v':=by
 obtain⟨iE,hiE,hzE0,hzE1,hzE2⟩:=info_parts Tryz.infoB92;have hr100:=hQ.r40;have hsw:sb<w.heap.size:=lt_of_block hS.blk;have HQ:Hid (∀V,Below B w V->Q.In V):=hid fun V hb=>hQ.below (hb.mono (by omega))
 have HS:Hid (DH w sb B Q.wb v E):=hid hS;have hwl:=hQ.wlt;have hwbl:=hQ.wbl;have hsB:=hS.sbB;obtain⟨L,hL⟩:=qF (Q.row.length);rw[<-hL]at hk hr100;have HL:=hid hL;clear hQ hS hL
 go_enter Tryz.func52,Tryz.ntmps52
 go_wp2
 go_loopw [6] (fun z wr=>∃(m:Nat) (vr:Value),i<=m/\m<=k/\z=ab m/\Hid (DH wr sb B Q.wb vr (E++DO Q.T.N Q.row i (m - i)))/\Hid (A1 w wr (sb::v.ownBlock.toList))/\Hid (BH w.heap.size v vr)) (fun z _=>k - (intOf z).toNat)
 case atStart=>exact⟨i,v,lR_ _,hik,rfl,hid (by rw[Nat.sub_self];simpa[DO] using HS.out),hid (A1.refl _ _),hid (BH.refl _ _)⟩
 case round=>
  obtain⟨m,vr,him,hmk,rfl,hsv,hkw,hfr⟩:=hrel
  by_cases hlt:m<k
  ·have hbw:Below B w wr:=hkw.out.below (by omega) (fun q hq=>(HS.out.kind q hq).1)
   have hQr:=HQ.out wr hbw;obtain⟨x,hx⟩:∃x,Q.row[m]?=some x:=⟨_,gE y45Z⟩;have hxT:=hQr.rl x (mG hx);obtain⟨aR,cR,hrv,hcR,hrc⟩:=hQr.rowc;rw[<-HL.out]at hrv hcR hrc;obtain⟨gR,off,rfl,hgR,hxc⟩:=hrc (by omega);have cx:=hxc m x hx;have e0:wr.cell? (af Q.wb 0)=some (ac Q.T.tb):=(A0 hQr.blk).trans rfl;have e1:wr.cell? (af Q.wb 1)=some (.slice (some (af gR off)) L cR):=by rw[<-hrv];exact(A0 hQr.blk).trans rfl
   have s0:wr.cell? (af sb 0)=some (ac Q.wb):=(A0 hsv.out.blk).trans rfl;have s1:wr.cell? (af sb 1)=some vr:=(A0 hsv.out.blk).trans rfl;obtain⟨d0,d1,_⟩:=hQr.tab.tv.heads;obtain⟨nT,hnT⟩:=qF (Q.T.N.nT);obtain⟨nN,hnN⟩:=qF (Q.T.N.nN);have HC1:Hid (∀V,Calls Tryz.prog 31 #[.agg #[.slice Q.T.adT nT Q.T.capT,ae Q.T.gN nN Q.T.capN]] V fun e w'=>e=.returned (ab nT)/\Below V.heap.size V w'):=hid fun V=>MO V _ _ _ _ _ _
   obtain⟨hab,hdc⟩:=NQ (N:=Q.T.N) Q.row (show m<=m+1 by omega);have hds:=JQ hQr.tab.fc.gr.ok hQr.rl hQr.r40 (m+1);have hdx:AU Q.T.N (Q.row.take (m+1)) - AU Q.T.N (Q.row.take m)=Q.T.N.drop x:=by rw[UO hx];omega
   obtain⟨dx,hdx2⟩:=qE (Q.T.N.drop x);have HC2:Hid (∀V,Below wr.heap.size wr V->Calls Tryz.prog 84 #[ac Q.wb,ab m,ab ((m:Int)+1)] V fun e w'=>e=.returned (ab dx)/\Below V.heap.size V w'):=hid fun V hb=>by
    have hV:=HQ.out V (hbw.trans (hb.mono (by have:=hbw.size;omega)));have hLr:=HL.out;have h:=MU V Q.wb Q.gd (Q.row.length+1) Q.cd m (m+1) _ _ ((A0 hV.blk).trans rfl) (by omega) (by omega) (by omega) (hV.drc m (by omega)) (hV.drc (m+1) (by omega)) hab (by omega);rw[hdx,hdx2]at h;exact h
   have hE2:E.length+(m - i)<=4000100:=by omega
   obtain⟨E1,hE1⟩:=qE (E++DO Q.T.N Q.row i (m - i));have hEn:E++DO Q.T.N Q.row i (m+1 - i)=E1++ [⟨m,2,x,nT,dx⟩]:=by
    rw[show m+1 - i=(m - i)+1 by omega,aS _ _ _ _ x (by rw[show i+(m - i)=m by omega];exact hx),<-aA,hE1,hdx2,hnT,show i+(m - i)=m by omega]
   have hEl:E1.length=E.length+(m - i):=by rw[<-hE1,lA,SU]
   rw[hE1]at hsv;obtain⟨kE,hkE⟩:=qE (E1.length);have hkE2:kE<=4000100:=by omega
   have hrow:wr.ownsRow B 92 5 vr kE (DM E1):=by rw[<-hkE];exact hsv.out.row
   have ogS:some sb≠vr.ownBlock:=fun e=>A6 hrow hsv.out.blk (by decide) e.symm
   have ogW:some Q.wb≠vr.ownBlock:=fun e=>by have:=(hrow.lt _ e.symm).1;omega
   have ogR:some gR≠vr.ownBlock:=fun e=>by have:=(hrow.lt _ e.symm).1;omega
   have hwr:=hkw.out.size;rw[<-hnT]at d0;rw[<-hnN]at d1;have ogT:some Q.T.tb≠vr.ownBlock:=fun e=>by have:=(hrow.lt _ e.symm).1;have:=hQr.bd.tb;omega
   have hmw:IntKind.i64.wrap ((m:Int)+1)=(m:Int)+1:=by rw[w64];omega
   have hml:((m:Int)< (L:Int)):=by omega
   have HRow:=hid hrow;have HEn:=hid hEn;have HSv:=hid hsv.out;have HKe:=hid hkE;have HKw:=hkw;have HFr:=hfr;have HQr:=hid hQr;have htbl:Q.T.tb<wr.heap.size:=by have:=hQr.bd.tb;omega
   have hgRl:gR<wr.heap.size:=by omega
   clear hsv hkw hfr hrow hEn hkE hEl hE1 hE2 hdx hdx2 hdc hab hds hxc hrc hrv hx hxT hQr hbw hnT hnN hcR
   go_upto_region 3 with fail
   refine AE (fun w'=>(w'.cell? (af sb 0)=some (ac Q.wb)/\w'.cell? (af sb 1)=some vr/\w'.cell? (af Q.wb 0)=some (ac Q.T.tb)/\w'.cell? (af Q.wb 1)=some (.slice (some (af gR off)) L cR))/\w'.cell? (af gR (off+m))=some (ab x)/\w'.cell? (af Q.T.tb 0)=some (.slice Q.T.adT nT Q.T.capT)/\w'.cell? (af Q.T.tb 1)=some (ae Q.T.gN nN Q.T.capN)) hmx y1Z ⟨⟨s0,s1,e0,e1⟩,cx,d0,d1⟩ (fun hH=>?_);simp only[AC,BM,AO];refine tB 0 hH ?_;refine tB 1 hH ?_;refine tB 2 hH ?_;refine tB 3 hH ?_;refine tB 4 hH ?_;refine tB 5 hH ?_;refine tB 6 hH ?_;refine tB 7 hH ?_;refine tB 8 hH ?_;refine tB 9 hH ?_;refine tB 10 hH ?_;refine tB 11 hH ?_;refine tB 12 hH ?_;refine tB 13 hH ?_;refine tB 14 hH ?_;refine tB 15 hH ?_;refine tB 16 hH ?_;refine tB 17 hH ?_;refine tB 18 hH ?_;refine tB 19 hH ?_;refine tB 20 hH ?_;refine tB 21 hH ?_;refine tB 22 hH ?_;refine tB 23 hH ?_;refine tB 24 hH ?_;refine tB 25 hH ?_;refine tB 26 hH ?_
   refine tB 28 hH ?_;refine tB 29 hH ?_;refine tB 30 hH ?_;refine tB 31 hH ?_;refine tB 32 hH ?_;refine tB 33 hH ?_;refine tB 34 hH ?_;refine tL ?_;refine tS 27 fun K hK=>?_
   refine tM ?_
   go_simp;refine(HC1.out _).mono ?_;rintro e w4 ⟨rfl,hb4⟩;try dsimp only
   refine hK.out _ _ ?_ fun hH=>?_
   ·exact⟨⟨A4 hb4 hH.1.1,A4 hb4 hH.1.2.1,A4 hb4 hH.1.2.2.1,A4 hb4 hH.1.2.2.2⟩,A4 hb4 hH.2.1,A4 hb4 hH.2.2.1,A4 hb4 hH.2.2.2⟩
   clear hK K;refine tL ?_;have HB4:Hid (Below wr.heap.size wr w4):=hid ((Below.refl _ wr).drew.trans hb4);refine tS 35 fun K hK=>?_
   refine tM ?_
   go_simp;refine(HC2.out _ HB4.out).mono ?_;rintro e w5 ⟨rfl,hb5⟩;try dsimp only
   refine hK.out _ _ ?_ fun hH=>?_
   ·exact⟨⟨A4 hb5 hH.1.1,A4 hb5 hH.1.2.1,A4 hb5 hH.1.2.2.1,A4 hb5 hH.1.2.2.2⟩,A4 hb5 hH.2.1,A4 hb5 hH.2.2.1,A4 hb5 hH.2.2.2⟩
   clear hK K;refine tL ?_;have HB5:Hid (Below wr.heap.size wr w5):=hid (HB4.out.trans (hb5.mono HB4.out.size));refine tB 36 hH ?_;refine tL ?_;refine tS 37 fun K hK=>?_
   refine tM ?_;go_simp;refine hK.out _ _ ?_ fun hH=>?_
   ·exact⟨⟨A2 _ hH.1.1,A2 _ hH.1.2.1,A2 _ hH.1.2.2.1,A2 _ hH.1.2.2.2⟩,A2 _ hH.2.1,A2 _ hH.2.2.1,A2 _ hH.2.2.2⟩
   clear hK K;refine tL ?_;have hs5:wr.heap.size<=w5.heap.size:=HB5.out.size;have HS5:Hid (DH w5 sb B Q.wb vr E1):=hid (HSv.out.keeps (A1.of_below HB5.out []) (by simp) (fun _ _=>by simp));have HR5:Hid (w5.ownsRow B 92 5 vr kE (DM E1)):=hid (by rw[<-HKe.out];exact HS5.out.row);refine tS 38 fun K hK=>?_
   refine tM ?_;rw[if_pos (by rfl)];refine wp_append_lies _ (.tmp 17) (.tmp 50) 89 rfl B 92 iE (.agg #[ab 0,ab 0,ab 0,ab 0,ab 0]) 5 40 Tryz.underlying89 hiE hzE0 hzE1 hzE2 rfl (by decide) vr _ _ rfl (HR5.out.alloc _) (af w5.heap.size 0) 1 1 [ab m,ab 2,ab x,ab nT,ab dx] rfl rfl (World.news_of_block (fr:=(0,0)) (heap_alloc_new w5 _)) y4Z (by omega) y3Z (by omega) y2Z _ rfl ?_;intro g2 cap2 w7 hown hgrow hat hlt2;refine hK.out _ _ ?_ fun hH=>?_
   ·exact⟨⟨(hgrow.cell_far _ y2Z y83Z).trans hH.1.1,(hgrow.cell_far _ y2Z y83Z).trans hH.1.2.1,(hgrow.cell_far _ y2Z y68Z).trans hH.1.2.2.1,(hgrow.cell_far _ y2Z y68Z).trans hH.1.2.2.2⟩,(hgrow.cell_far _ y2Z (by exact ogR)).trans hH.2.1,(hgrow.cell_far _ y2Z y35Z).trans hH.2.2.1,(hgrow.cell_far _ y2Z y35Z).trans hH.2.2.2⟩
   clear hK K;refine tL ?_;refine tB 39 hH ?_;refine tB 40 hH ?_;refine tB 41 hH ?_;refine tL ?_;refine wpAnyH_done y1Z ?_ _;clear hH hb4 hb5 s0 s1 e0 e1 cx d0 d1;obtain⟨z1,z2,z3⟩:=HS5.out.add (e:=⟨m,2,x,nT,dx⟩) ((A1.refl w5 []).alloc _) hgrow (by rw[HKe.out];exact hown);have zc:w7.cell? (af sb 1)=some vr:=(A0 z1).trans rfl;have zf:=A3 (j:=1) z1;have HZ:=hid (And.intro z2 z3);have HFr2:Hid (BH w5.heap.size vr (ae g2 (kE+1) cap2)):=hid (fun g hg=>by
    obtain rfl:g2=g:=by simpa[Value.ownBlock] using hg
    rcases hat with h4 |h4
    ·exact .inl h4
    ·exact .inr y70Z)
   clear z1 z2 z3 hown hgrow hat hlt2;show wpList _ _ _ _ _ _;go_wp2;obtain⟨W5,hW5⟩:=qE (w7.setCell (af sb 1) (ae g2 (kE+1) cap2));rw[hW5]at HZ ⊢;clear hW5 zc zf;go_wp2
   go_roundw
   case rel=>exact⟨m+1,_,by omega,by omega,by go_num,hid (by rw[HEn.out];exact HZ.out.1),hid (HKw.out.fresh (((A1.of_below HB5.out []).mono (fun q h=>by cases h)).trans HZ.out.2) HFr.out (lR_ _)),hid (HFr.out.trans HFr2.out (by omega))⟩
   case measure=>simp[intOf];omega
  ·have hme:m=k:=by omega
   have HSv:Hid (DH wr sb B Q.wb vr (E++DO Q.T.N Q.row i (k - i))):=hid (by rw[<-hme];exact hsv.out);clear hsv hme;go_wp2
   go_end0
   exact⟨rfl,_,HSv.out,hkw.out,hfr.out⟩
def KR (N:NG) (i x u:Nat):List EdP:=if FC N x u=0 then []else [⟨i,3,x,u,FC N x u⟩]
theorem dU  (hQ:Q.In w) {i u x:Nat} (hS:DH w sb B Q.wb v E) (hgB:Q.gp<B) (hBw:B<=w.heap.size) (hx:Q.row[i]?=some x) (hu:u<Q.T.N.nT) (hE:E.length<=4000200):
  Calls Tryz.prog 86 #[ac sb,ab i,ab u] w fun e w'=>e=.returned (.tuple #[])/\∃v',DH w' sb B Q.wb v' (E++KR Q.T.N i x u)/\A1 w w' (sb::v.ownBlock.toList)/\BH w.heap.size v v':=by
 obtain⟨iE,hiE,hzE0,hzE1,hzE2⟩:=info_parts Tryz.infoB92;have hr100:=hQ.r40;have hxT:=hQ.rl x (mG hx);have hiL:i<Q.row.length:=(gS_.1 hx).1;have hsw:sb<w.heap.size:=lt_of_block hS.blk;have hwl:=hQ.wlt;have hwbl:=hQ.wbl;have hsB:=hS.sbB;obtain⟨aR,cR,hrv,hcR,hrc⟩:=hQ.rowc;obtain⟨gR,off,rfl,hgR,hxc⟩:=hrc (by omega);have cx:=hxc i x hx;have e0:w.cell? (af Q.wb 0)=some (ac Q.T.tb):=(A0 hQ.blk).trans rfl;have e1:w.cell? (af Q.wb 1)=some (.slice (some (af gR off)) Q.row.length cR):=by rw[<-hrv];exact(A0 hQ.blk).trans rfl
 have s0:w.cell? (af sb 0)=some (ac Q.wb):=(A0 hS.blk).trans rfl;obtain⟨L,hL⟩:=qF (Q.row.length);rw[<-hL]at e1 hcR hiL hr100;have HQ:Hid (∀V,Below w.heap.size w V->Q.In V):=hid fun V hb=>hQ.below (hb.mono (by omega))
 obtain⟨kc,hkc⟩:=qE (FC Q.T.N x u);have HK:Hid (∀V,Below w.heap.size w V->Calls Tryz.prog 109 #[ac Q.wb,ab x,ab u] V fun e w'=>e=.returned (ab kc)/\Below V.heap.size V w'):=hid fun V hb=>by
  have hV:=HQ.out V hb;have h:=QL hV.tab.fc.gr hV.tab.fc.ln hV.tab.tv ((A0 hV.blk).trans rfl) x u hxT hu;rw[hkc]at h;exact h
 have HE:Hid (KR Q.T.N i x u=if kc=0 then []else [⟨i,3,x,u,kc⟩]):=hid (by unfold KR;rw[hkc]);have HS:Hid (DH w sb B Q.wb v E):=hid hS;have hgRl:gR<w.heap.size:=by omega
 clear hQ hS hx hxc hrc hrv hL hkc hcR
 go_enter Tryz.func86,Tryz.ntmps86
 go_upto_region 0 with fail
 refine wp_region_held_drew (S:=fun w'=>w'.cell? (af sb 0)=some (ac Q.wb)/\w'.cell? (af Q.wb 1)=some (.slice (some (af gR off)) L cR)/\w'.cell? (af gR (off+i))=some (ab x)) y1Z ⟨s0,e1,cx⟩ (fun hH=>?_);refine tB 0 hH ?_;refine tB 1 hH ?_;refine tB 2 hH ?_;refine tB 3 hH ?_;refine tB 4 hH ?_;refine tB 5 hH ?_;refine tB 6 hH ?_;refine tB 7 hH ?_;refine tB 8 hH ?_;refine tB 9 hH ?_;refine tB 10 hH ?_;refine tB 11 hH ?_;refine tB 12 hH ?_;refine tB 13 hH ?_;refine tB 14 hH ?_;refine tL ?_;refine tS 15 fun K hK=>?_
 refine tM ?_
 go_simp;refine(HK.out _ (Below.refl _ w).drew).mono ?_;rintro e w4 ⟨rfl,hb4⟩;try dsimp only
 refine hK.out _ _ ?_ fun hH=>?_
 ·exact⟨A4 hb4 hH.1,A4 hb4 hH.2.1,A4 hb4 hH.2.2⟩
 clear hK K;refine tB 16 hH ?_;refine tL ?_;refine wpAnyH_done y1Z ?_ _;have HB4:Hid (Below w.heap.size w w4):=hid ((Below.refl _ w).drew.trans hb4);have hs4:=hb4.size;have hs4:w.heap.size<=w4.heap.size:=hs4;have hsv:DH w4 sb B Q.wb v E:=HS.out.keeps (A1.of_below HB4.out []) (by simp) (fun _ _=>by simp);clear hH hb4
 by_cases h0:kc=0
 ·have hk0:¬((0:Int)< (kc:Int)):=by omega
  have HE2:Hid (E++KR Q.T.N i x u=E):=hid (by rw[HE.out,if_pos h0,List.append_nil]);have HS4:=hid hsv;clear h0 hsv;go_wp2
  go_end0
  exact⟨rfl,v,by rw[HE2.out];exact HS4.out,A1.of_below HB4.out _,BH.refl _ _⟩
 ·have hk0:((0:Int)< (kc:Int)):=by omega
  have HE2:Hid (E++KR Q.T.N i x u=E++ [⟨i,3,x,u,kc⟩]):=hid (by rw[HE.out,if_neg h0]);obtain⟨kE,hkE⟩:=qE (E.length);rw[hkE]at hE;have hrow:w4.ownsRow B 92 5 v kE (DM E):=by rw[<-hkE];exact hsv.row
  have ogS:some sb≠v.ownBlock:=fun e=>A6 hrow hsv.blk (by decide) e.symm
  have ogW:some Q.wb≠v.ownBlock:=fun e=>by have:=(hrow.lt _ e.symm).1;omega
  have ogR:some gR≠v.ownBlock:=fun e=>by have:=(hrow.lt _ e.symm).1;omega
  have t0:w4.cell? (af sb 0)=some (ac Q.wb):=(A0 hsv.blk).trans rfl;have t1:w4.cell? (af sb 1)=some v:=(A0 hsv.blk).trans rfl;have t2:=A4 HB4.out e1;have t3:=A4 HB4.out cx;have HRow:=hid hrow;have HS4:=hid hsv;have HKe:=hid hkE;clear h0 hsv hrow hkE s0 e0 e1 cx
  go_upto_region 2 with fail
  refine AE (fun w'=>w'.cell? (af sb 0)=some (ac Q.wb)/\w'.cell? (af sb 1)=some v/\w'.cell? (af Q.wb 1)=some (.slice (some (af gR off)) L cR)/\w'.cell? (af gR (off+i))=some (ab x)) hmx y1Z ⟨t0,t1,t2,t3⟩ (fun hH=>?_);simp only[AC,BM,AO];refine tB 0 hH ?_;refine tB 1 hH ?_;refine tB 2 hH ?_;refine tB 3 hH ?_;refine tB 4 hH ?_;refine tB 5 hH ?_;refine tB 6 hH ?_;refine tB 7 hH ?_;refine tB 8 hH ?_;refine tB 9 hH ?_;refine tB 10 hH ?_;refine tB 11 hH ?_;refine tB 12 hH ?_;refine tB 13 hH ?_;refine tB 14 hH ?_;refine tB 15 hH ?_;refine tB 16 hH ?_;refine tB 17 hH ?_;refine tB 18 hH ?_;refine tL ?_;refine tS 19 fun K hK=>?_
  refine tM ?_;go_simp;refine hK.out _ _ ?_ fun hH=>?_
  ·exact⟨A2 _ hH.1,A2 _ hH.2.1,A2 _ hH.2.2.1,A2 _ hH.2.2.2⟩
  clear hK K;refine tL ?_;refine tS 20 fun K hK=>?_
  refine tM ?_;rw[if_pos (by rfl)];refine wp_append_lies _ (.tmp 29) (.tmp 44) 89 rfl B 92 iE (.agg #[ab 0,ab 0,ab 0,ab 0,ab 0]) 5 40 Tryz.underlying89 hiE hzE0 hzE1 hzE2 rfl (by decide) v _ _ rfl (HRow.out.alloc _) (af w4.heap.size 0) 1 1 [ab i,ab 3,ab x,ab u,ab kc] rfl rfl (World.news_of_block (fr:=(0,0)) (heap_alloc_new w4 _)) y4Z (by omega) y3Z (by omega) y2Z _ rfl ?_;intro g2 cap2 w7 hown hgrow hat hlt2;refine hK.out _ _ ?_ fun hH=>?_
  ·exact⟨(hgrow.cell_far _ y2Z y83Z).trans hH.1,(hgrow.cell_far _ y2Z y83Z).trans hH.2.1,(hgrow.cell_far _ y2Z y68Z).trans hH.2.2.1,(hgrow.cell_far _ y2Z (by exact ogR)).trans hH.2.2.2⟩
  clear hK K;refine tL ?_;refine tB 21 hH ?_;refine tB 22 hH ?_;refine tB 23 hH ?_;refine tL ?_;refine wpAnyH_done y1Z ?_ _;clear hH t0 t1 t2 t3;obtain⟨z1,z2,z3⟩:=HS4.out.add (Wa:=(w4.alloc (.cells #[ab i,ab 3,ab x,ab u,ab kc] 92)).drew) (e:=⟨i,3,x,u,kc⟩) ((A1.refl w4 []).alloc _).drew hgrow (by rw[HKe.out];exact hown);have zc:w7.cell? (af sb 1)=some v:=(A0 z1).trans rfl;have zf:=A3 (j:=1) z1;have HZ:=hid (And.intro z2 z3);have HFr2:Hid (BH w4.heap.size v (ae g2 (kE+1) cap2)):=hid (fun g hg=>by
   obtain rfl:g2=g:=by simpa[Value.ownBlock] using hg
   rcases hat with h4 |h4
   ·exact .inl h4
   ·exact .inr y70Z)
  clear z1 z2 z3 hown hgrow hat hlt2;show wpList _ _ _ _ _ _;go_wp2;obtain⟨W5,hW5⟩:=qE (w7.setCell (af sb 1) (ae g2 (kE+1) cap2));rw[hW5]at HZ ⊢;clear hW5 zc zf;go_wp2
  go_end0
  exact⟨rfl,_,by rw[HE2.out];exact HZ.out.1,((A1.of_below HB4.out []).mono (fun q h=>by cases h)).trans HZ.out.2,(BH.refl w.heap.size v).trans HFr2.out (by omega)⟩
theorem kR {g x1 x2:Nat}{y:Wt} (h:w.heap[g]?=some (.cells #[ab x1,ab x2] 175 (0,0))):
  Calls Tryz.prog 81 #[ac g,wtV y] w fun e w'=>e=.returned (.bool (decide (wlt y (x1,x2))))/\w'.heap[g]?=some (.cells #[ab (BL (x1,x2) y).1,ab (BL (x1,x2) y).2] 175 (0,0))/\A1 w w' [g]:=by
 obtain⟨y1,y2⟩:=y;refine(RL g 0 x1 x2 y1 y2 w ((A0 h).trans rfl) ((A0 h).trans rfl) (fun j=>A3 h)).mono ?_;rintro e w' ⟨rfl,w1,hb,hw⟩;have h1:w1.heap[g]?=some (.cells #[ab x1,ab x2] 175 (0,0)):=(hb.block g (lt_of_block h)).trans h;refine⟨rfl,?_⟩;rw[L4]
 by_cases hl:wlt (y1,y2) (x1,x2)
 ·rw[if_pos hl]at hw ⊢
  subst hw;exact⟨A5 (j:=1) (A5 (j:=0) h1 _) _,(A1.of_below hb [g]).trans (((A1.refl w1 [g]).setCell (by simp) _).setCell (by simp) _)⟩
 ·rw[if_neg hl]at hw ⊢
  subst hw;exact⟨h1,A1.of_below hb _⟩
def EZ (f:Nat->Wt):Nat->Wt × Nat
 |0=>((AB,0),0)
 |i+1=>if wlt (f i) (EZ f i).1 then(f i,i)else EZ f i
theorem fH (f:Nat->Wt):∀(n:Nat),wle (EZ f n).1 (AB,0)/\(EZ f n).2<=n - 1/\∀i,i<n->wle (EZ f n).1 (f i)
 |0=>⟨FL _,lR_ _,fun i h=>by omega⟩
 |n+1=>by
  obtain⟨h1,h2,h3⟩:=fH f n;unfold EZ
  by_cases h:wlt (f n) (EZ f n).1
  ·rw[if_pos h]
   have h4:wle (f n) (EZ f n).1:=by unfold wlt at h;unfold wle;omega
   refine⟨GF h4 h1,by show n<=n;omega,fun i hi=>?_⟩
   by_cases e:i=n
   ·subst e;exact FL _
   ·exact GF h4 (h3 i (by omega))
  ·rw[if_neg h]
   refine⟨h1,by omega,fun i hi=>?_⟩
   by_cases e:i=n
   ·subst e;exact fC h
   ·exact h3 i (by omega)
theorem fF (f:Nat->Wt):∀(n:Nat),(EZ f n).1=(AB,0)\/(0<n/\(EZ f n).1=f (EZ f n).2)
 |0=>.inl rfl
 |n+1=>by
  unfold EZ
  by_cases h:wlt (f n) (EZ f n).1
  ·rw[if_pos h];exact .inr ⟨by omega,rfl⟩
  ·rw[if_neg h]
   rcases fF f n with h1 |h1
   ·exact .inl h1
   ·exact .inr ⟨by omega,h1.2⟩
def DV (Q:Wts) (cn:Nat->Nat->Nat->Wt) (a:Nat):Wt:=GE (cn 0 0 a) (E4 Q.T.N Q.row a Q.row.length,0)
theorem V0  (hQ:Q.In w) {cn:Nat->Nat->Nat->Wt} (hS:DH w sb B Q.wb v E) (hgB:Q.gp<B) (hBw:B<=w.heap.size) (hc:WSm cn) (hn:∀a,a<=Q.row.length->NmV Q w B 0 a (fun n=>cn n 0 a)):
  Calls Tryz.prog 50 #[ac sb] w fun e w'=>e=.returned (ab (EZ (DV Q cn) (Q.row.length+1)).2)/\Below w.heap.size w w':=by
 have hr100:=hQ.r40;have hsw:sb<w.heap.size:=lt_of_block hS.blk;have hwl:=hQ.wlt;have hwbl:=hQ.wbl;have htbl:Q.T.tb<w.heap.size:=hQ.tab.bd.tb;obtain⟨aR,cR,hrv,hcR,_⟩:=hQ.rowc;have e0:w.cell? (af Q.wb 0)=some (ac Q.T.tb):=(A0 hQ.blk).trans rfl;have e1:w.cell? (af Q.wb 1)=some (.slice aR Q.row.length cR):=by rw[<-hrv];exact(A0 hQ.blk).trans rfl
 have s0:w.cell? (af sb 0)=some (ac Q.wb):=(A0 hS.blk).trans rfl;obtain⟨d0,d1,_⟩:=hQ.tab.tv.heads;have HQ:Hid (∀V,Below B w V->Q.In V):=hid fun V hb=>hQ.below (hb.mono (by omega))
 have HNm:Hid (∀V a,Below B w V->a<=Q.row.length->NmV Q V B 0 a (fun n=>cn n 0 a)):=hid fun V a hb ha=>(hn a ha).below hb hgB
 have HN0:Hid (0<Q.T.N.nN):=hid hQ.tab.fc.gr.ok.pos;have HNok:Hid (Q.T.N.Ok/\∀x∈Q.row,x<Q.T.N.nT):=hid ⟨hQ.tab.fc.gr.ok,hQ.rl⟩;have HC:Hid (WSm cn):=hid hc;obtain⟨nT,hnT⟩:=qF (Q.T.N.nT);obtain⟨nN,hnN⟩:=qF (Q.T.N.nN);obtain⟨L,hL⟩:=qF (Q.row.length);rw[<-hnT]at d0;rw[<-hnN]at d1;rw[<-hL]at e1 hcR hr100;obtain⟨L1,hL1⟩:=qF (L+1);have hLi:IntKind.i64.wrap ((L:Int)+1)=(L1:Int):=by rw[w64];omega
 have hL101:L1<=101:=by omega
 have HL:Hid (L=Q.row.length/\L1=L+1):=hid ⟨hL,hL1⟩;clear hQ hS hc hn hnT hnN hL hL1 hrv hcR
 go_enter Tryz.func50,Tryz.ntmps50
 have s0':(w.alloc (.cells #[ab 1048576,ab 0] 175)).cell? (af sb 0)=some (ac Q.wb):=A2 _ s0;have e1':(w.alloc (.cells #[ab 1048576,ab 0] 175)).cell? (af Q.wb 1)=some (.slice aR L cR):=A2 _ e1;go_wp2;obtain⟨W,hW⟩:=qE (w.alloc (.cells #[ab 1048576,ab 0] 175));have hkW:A1 w W []:=by rw[<-hW];exact(A1.refl w []).alloc _
 have hlW:W.heap[w.heap.size]?=some (.cells #[ab 1048576,ab 0] 175 (0,0)):=by rw[<-hW];exact World.alloc_heap_new w _
 have hsW:w.heap.size<W.heap.size:=lt_of_block hlW;rw[hW];have HKW:=hid hkW;have HLW:=hid hlW;clear hW s0' e1' hkW hlW hLi
 go_loopw [4,16] (fun ev z wr=>∃(i:Nat),i<=L1/\ev=ab ((EZ (DV Q cn) i).2:Nat)/\z=ab i/\Hid (A1 W wr [w.heap.size])/\Hid (wr.heap[w.heap.size]?=some (.cells #[ab (EZ (DV Q cn) i).1.1,ab (EZ (DV Q cn) i).1.2] 175 (0,0)))) (fun _ z _=>L1 - (intOf z).toNat)
 case atStart=>exact⟨0,Nat.zero_le _,rfl,rfl,hid (A1.refl _ _),HLW⟩
 case round=>
  obtain⟨i,hi,rfl,rfl,hkw,hlw⟩:=hrel;have HB0:Hid (Below w.heap.size w wr):=hid ((HKW.out.below (lR_ _) (fun q h=>by cases h)).trans (hkw.out.below (by omega) (fun q hq=>by rw[mS.1 hq];exact lR_ _)))
  by_cases hlt:i<L1
  ·obtain⟨m1,hm1⟩:=qE ((EZ (DV Q cn) i).1.1)
   obtain⟨m2,hm2⟩:=qE ((EZ (DV Q cn) i).1.2);obtain⟨ev,hev⟩:=qE ((EZ (DV Q cn) i).2);rw[hm1,hm2]at hlw;rw[hev];have HM:Hid (EZ (DV Q cn) i=((m1,m2),ev)):=hid (Prod.ext (Prod.ext hm1 hm2) hev);have hcb:=HC.out 0 0 i;unfold AB FZ at hcb;obtain⟨c1,hc1⟩:=qE ((cn 0 0 i).1);obtain⟨c2,hc2⟩:=qE ((cn 0 0 i).2);rw[hc1,hc2]at hcb;obtain⟨hcb1,hcb2⟩:=hcb;have hLr:=HL.out.1;have hL1r:=HL.out.2;have hab:=NQ (N:=Q.T.N) Q.row (show i<=Q.row.length by omega);obtain⟨hab,hdc⟩:=hab;have hds:=JQ HNok.out.1 HNok.out.2 (by omega) Q.row.length;obtain⟨dc,hdc2⟩:=qE (E4 Q.T.N Q.row i Q.row.length);have hdcl:dc<=9900:=by omega
   rw[hdc2]at hdc;have hBr:∀V,Below wr.heap.size wr V->Below B w V:=fun V hb=>(HB0.out.mono hBw).trans (hb.mono (by have:=HB0.out.size;omega))
   have H15:Hid (∀V,Calls Tryz.prog 34 #[.agg #[.slice Q.T.adT nT Q.T.capT,ae Q.T.gN nN Q.T.capN]] V fun e w'=>e=.returned (.agg #[.bool true,ab 0])/\Below V.heap.size V w'):=hid fun V=>NJ _ _ V
   have H17:Hid (∀V,Below wr.heap.size wr V->Calls Tryz.prog 82 #[ac Q.wb,.agg #[.bool true,ab 0],ab 0,ab i] V fun e w'=>e=.returned (.agg #[ab c1,ab c2])/\Below V.heap.size V w'):=hid fun V hb=>by
    have h:=UF (HQ.out V (hBr V hb)) (p:=.nam 0) (i:=0) (k:=i) (cn:=cn) HN0.out (Nat.zero_le _) (by omega) (fun n e=>by cases e;exact HNm.out V i (hBr V hb) (by omega)) (by have:=(hBr V hb).size;omega);rw[show CZ Q.T.N Q.row cn (.nam 0) 0 i=(c1,c2) from Prod.ext hc1 hc2]at h;exact h
   have H31:Hid (∀V,Below wr.heap.size wr V->Calls Tryz.prog 84 #[ac Q.wb,ab i,ab L] V fun e w'=>e=.returned (ab dc)/\Below V.heap.size V w'):=hid fun V hb=>by
    have hV:=HQ.out V (hBr V hb);have h:=MU V Q.wb Q.gd (Q.row.length+1) Q.cd i Q.row.length _ _ ((A0 hV.blk).trans rfl) (by omega) (by omega) (by omega) (hV.drc i (by omega)) (hV.drc Q.row.length (lR_ _)) hab (by omega);rw[hdc,<-hLr]at h;exact h
   obtain⟨y,hy⟩:=qE (GE (c1,c2) (dc,0));obtain⟨y1,y2⟩:=y;have H33:Hid (∀V,Calls Tryz.prog 83 #[.agg #[ab c1,ab c2],.agg #[ab dc,ab 0]] V fun e w'=>e=.returned (.agg #[ab y1,ab y2])/\Below V.heap.size V w'):=hid fun V=>by
    have h:=QI c1 c2 dc 0 (by omega) hcb2 (by omega) V;rw[hy]at h;exact h
   have HY:Hid (DV Q cn i=(y1,y2)):=hid (by unfold DV;rw[hdc2,<-hy,show cn 0 0 i=(c1,c2) from Prod.ext hc1 hc2]);have HN1:Hid (EZ (DV Q cn) (i+1)=if wlt (y1,y2) (m1,m2)then((y1,y2),i)else((m1,m2),ev)):=hid (by
    show(if wlt (DV Q cn i) (EZ (DV Q cn) i).1 then(DV Q cn i,i)else EZ (DV Q cn) i)=_;rw[HM.out,HY.out])
   have t0:=(HB0.out.cell (p:=(af sb 0)) (by exact hsw)).trans s0;have t1:=(HB0.out.cell (p:=(af Q.wb 0)) y19Z).trans e0;have t2:=(HB0.out.cell (p:=(af Q.wb 1)) y19Z).trans e1;have t3:=(HB0.out.cell (p:=(af Q.T.tb 0)) (by exact htbl)).trans d0;have t4:=(HB0.out.cell (p:=(af Q.T.tb 1)) (by exact htbl)).trans d1;have hswr:w.heap.size<wr.heap.size:=by have:=hkw.out.size;omega
   clear hm1 hm2 hev hc1 hc2 hLr hL1r hab hdc hds hdc2 hBr hy
   go_upto_region 5 with fail
   refine wp_region_held_drew (S:=fun w'=>w'.cell? (af sb 0)=some (ac Q.wb)/\w'.cell? (af Q.wb 0)=some (ac Q.T.tb)/\w'.cell? (af Q.wb 1)=some (.slice aR L cR)/\w'.cell? (af Q.T.tb 0)=some (.slice Q.T.adT nT Q.T.capT)/\w'.cell? (af Q.T.tb 1)=some (ae Q.T.gN nN Q.T.capN)) y1Z ⟨t0,t1,t2,t3,t4⟩ (fun hH=>?_);refine tB 0 hH ?_;refine tB 1 hH ?_;refine tB 2 hH ?_;refine tB 3 hH ?_;refine tB 4 hH ?_;refine tB 5 hH ?_;refine tB 6 hH ?_;refine tB 7 hH ?_;refine tB 8 hH ?_;refine tB 9 hH ?_;refine tB 10 hH ?_;refine tB 11 hH ?_;refine tB 12 hH ?_;refine tB 13 hH ?_;refine tB 14 hH ?_;refine tB 16 hH ?_;refine tB 18 hH ?_;refine tB 19 hH ?_;refine tB 20 hH ?_;refine tB 21 hH ?_;refine tB 22 hH ?_;refine tB 23 hH ?_;refine tB 24 hH ?_;refine tB 25 hH ?_;refine tB 26 hH ?_;refine tB 27 hH ?_;refine tB 28 hH ?_;refine tB 29 hH ?_;refine tB 30 hH ?_;refine tL ?_;refine tS 15 fun K hK=>?_
   refine tM ?_
   go_simp;refine(H15.out _).mono ?_;rintro e w1 ⟨rfl,hb1⟩;try dsimp only
   refine hK.out _ _ ?_ fun hH=>?_
   ·exact⟨A4 hb1 hH.1,A4 hb1 hH.2.1,A4 hb1 hH.2.2.1,A4 hb1 hH.2.2.2.1,A4 hb1 hH.2.2.2.2⟩
   clear hK K;refine tL ?_;have G1:Hid (Below wr.heap.size wr w1):=hid ((Below.refl _ wr).drew.trans hb1);refine tS 17 fun K hK=>?_
   refine tM ?_
   go_simp;refine(H17.out _ G1.out).mono ?_;rintro e w2 ⟨rfl,hb2⟩;try dsimp only
   refine hK.out _ _ ?_ fun hH=>?_
   ·exact⟨A4 hb2 hH.1,A4 hb2 hH.2.1,A4 hb2 hH.2.2.1,A4 hb2 hH.2.2.2.1,A4 hb2 hH.2.2.2.2⟩
   clear hK K;refine tL ?_;have G2:Hid (Below wr.heap.size wr w2):=hid (G1.out.trans (hb2.mono G1.out.size));refine tS 31 fun K hK=>?_
   refine tM ?_
   go_simp;refine(H31.out _ G2.out).mono ?_;rintro e w3 ⟨rfl,hb3⟩;try dsimp only
   refine hK.out _ _ ?_ fun hH=>?_
   ·exact⟨A4 hb3 hH.1,A4 hb3 hH.2.1,A4 hb3 hH.2.2.1,A4 hb3 hH.2.2.2.1,A4 hb3 hH.2.2.2.2⟩
   clear hK K;refine tL ?_;have G3:Hid (Below wr.heap.size wr w3):=hid (G2.out.trans (hb3.mono G2.out.size));refine tB 32 hH ?_;refine tL ?_;refine tS 33 fun K hK=>?_
   refine tM ?_
   go_simp;refine(H33.out _).mono ?_;rintro e w4 ⟨rfl,hb4⟩;try dsimp only
   refine hK.out _ _ ?_ fun hH=>?_
   ·exact⟨A4 hb4 hH.1,A4 hb4 hH.2.1,A4 hb4 hH.2.2.1,A4 hb4 hH.2.2.2.1,A4 hb4 hH.2.2.2.2⟩
   clear hK K;refine tL ?_;have G4:Hid (Below wr.heap.size wr w4):=hid (G3.out.trans (hb4.mono G3.out.size));have H34:Hid (Calls Tryz.prog 81 #[ac w.heap.size,.agg #[ab y1,ab y2]] w4 fun e w'=>e=.returned (.bool (decide (wlt (y1,y2) (m1,m2))))/\w'.heap[w.heap.size]?=some (.cells #[ab (BL (m1,m2) (y1,y2)).1,ab (BL (m1,m2) (y1,y2)).2] 175 (0,0))/\A1 w4 w' [w.heap.size]):=hid (kR (y:=(y1,y2)) ((G4.out.block _ hswr).trans hlw.out));have hs4:=G4.out.size;refine tS 34 fun K hK=>?_
   refine tM ?_
   go_simp;refine H34.out.mono ?_;rintro e w5 ⟨rfl,hl5,hk5⟩;try dsimp only
   refine hK.out _ _ ?_ fun hH=>?_
   ·exact⟨(hk5.cell (by show sb<w4.heap.size;omega) y2Z).trans hH.1,(hk5.cell y23Z y2Z).trans hH.2.1,(hk5.cell y23Z y2Z).trans hH.2.2.1,(hk5.cell (by show Q.T.tb<w4.heap.size;omega) y2Z).trans hH.2.2.2.1,(hk5.cell (by show Q.T.tb<w4.heap.size;omega) y2Z).trans hH.2.2.2.2⟩
   clear hK K;refine tL ?_;refine wpAnyH_done y1Z ?_ _;have HK5:Hid (A1 W w5 [w.heap.size]):=hid (hkw.out.trans (((A1.of_below G4.out []).mono (fun q h=>by cases h)).trans hk5));have HL5:=hid hl5;clear hH hb1 hb2 hb3 hb4 hk5 hl5 hkw hlw t0 t1 t2 t3 t4
   by_cases hw:wlt (y1,y2) (m1,m2)
   ·rw[decide_eq_true hw]
    have e:=HN1.out;rw[if_pos hw]at e;have HR:Hid (EZ (DV Q cn) (i+1)=((y1,y2),i)):=hid e;have HL6:Hid (w5.heap[w.heap.size]?=some (.cells #[ab y1,ab y2] 175 (0,0))):=hid (by have h:=HL5.out;rw[L4,if_pos hw]at h;exact h);clear e hw;go_wp2
    go_roundw
    case rel=>exact⟨i+1,by omega,by rw[HR.out],by go_num,HK5,by rw[HR.out];exact HL6⟩
    case measure=>simp[intOf];omega
   ·rw[decide_eq_false hw]
    have e:=HN1.out;rw[if_neg hw]at e;have HR:Hid (EZ (DV Q cn) (i+1)=((m1,m2),ev)):=hid e;have HL6:Hid (w5.heap[w.heap.size]?=some (.cells #[ab m1,ab m2] 175 (0,0))):=hid (by have h:=HL5.out;rw[L4,if_neg hw]at h;exact h);clear e hw;go_wp2
    go_roundw
    case rel=>exact⟨i+1,by omega,by rw[HR.out],by go_num,HK5,by rw[HR.out];exact HL6⟩
    case measure=>simp[intOf];omega
  ·have hiE:i=L1:=by omega
   have HE:Hid (i=Q.row.length+1):=hid y30Z;clear hlw hkw;go_wp2;go_ret;exact⟨by rw[<-HE.out];rfl,HB0.out⟩
theorem Mz35 {P:Prop} (h:P:=by
  exact⟨⟨A4 hb1 hH.1.1,A4 hb1 hH.1.2.1,A4 hb1 hH.1.2.2⟩,A4 hb1 hH.2.1,A4 hb1 hH.2.2.1,A4 hb1 hH.2.2.2.1,A4 hb1 hH.2.2.2.2⟩):P:=h
theorem b9 {V:World}{pb nb gn gq nN nQ n h c1 c2 t1 t2:Nat} (hp0:V.cell? (af pb 0)=some (ae gn nN nN)) (hp1:V.cell? (af pb 1)=some (ae gq nQ nQ)) (hn:V.cell? (af nb 0)=some (ab n))
  (hnN:n<nN) (hhQ:h<nQ) (_:nN<=1000) (_:nQ<=1000) (k1:V.cell? (af gn (n*2))=some (ab c1)) (k2:V.cell? (af gn (n*2+1))=some (ab c2)) (k3:V.cell? (af gq (h*2))=some (ab t1)) (k4:V.cell? (af gq (h*2+1))=some (ab t2))
  (ht1:t1<=4611686018427387000) (ht2:t2<=939524097):
  Calls Tryz.prog 111 #[ab h,ac pb,ac nb] V fun e w'=>e=.returned (.bool (decide (named (t1,t2)=(c1,c2))))/\Below V.heap.size V w':=by
 have hhi:((h:Int)< (nQ:Int)):=by omega
 have hni:((n:Int)< (nN:Int)):=by omega
 have HNm:Hid (∀V,Calls Tryz.prog 112 #[.agg #[ab t1,ab t2]] V fun e w'=>e=.returned (wtV (named (t1,t2)))/\Below V.heap.size V w'):=hid fun V=>UL t1 t2 (by omega) ht2 V
 obtain⟨y,hy⟩:=qE (named (t1,t2));obtain⟨y1,y2⟩:=y;rw[hy]at HNm ⊢;clear hy
 by_cases e1:y1=c1
 ·subst e1
  by_cases e2:y2=c2
  ·subst e2
   go_enter Tryz.func111,Tryz.ntmps111
   go_upto_region 1 with fail
   refine wp_region_held_drew (S:=fun w'=>(w'.cell? (af pb 0)=some (ae gn nN nN)/\w'.cell? (af pb 1)=some (ae gq nQ nQ)/\w'.cell? (af nb 0)=some (ab n))/\w'.cell? (af gn (n*2))=some (ab y1)/\w'.cell? (af gn (n*2+1))=some (ab y2)/\w'.cell? (af gq (h*2))=some (ab t1)/\w'.cell? (af gq (h*2+1))=some (ab t2)) y1Z ⟨⟨hp0,hp1,hn⟩,k1,k2,k3,k4⟩ (fun hH=>?_);refine tB 0 hH ?_;refine tB 1 hH ?_;refine tB 2 hH ?_;refine tB 3 hH ?_;refine tB 4 hH ?_;refine tB 6 hH ?_;refine tB 7 hH ?_;refine tB 8 hH ?_;refine tB 9 hH ?_;refine tB 10 hH ?_;refine tL ?_;refine tS 5 fun K hK=>?_
   refine tM ?_
   go_simp;refine(HNm.out _).mono ?_;rintro e w1 ⟨rfl,hb1⟩;unfold wtV;try dsimp only
   refine hK.out _ _ ?_ fun hH=>?_
   ·exact Mz35
   clear hK K;refine tB 11 hH ?_;refine tB 12 hH ?_;refine tL ?_;refine wpAnyH_done y1Z ?_ _;have HB1:Hid (Below V.heap.size V w1):=hid ((Below.refl _ V).drew.trans hb1);clear hH hb1;go_wp2;go_ret;exact⟨rfl,HB1.out⟩
  ·have e3:¬((y2:Int)=(c2:Int)):=by omega
   go_enter Tryz.func111,Tryz.ntmps111
   go_upto_region 1 with fail
   refine wp_region_held_drew (S:=fun w'=>(w'.cell? (af pb 0)=some (ae gn nN nN)/\w'.cell? (af pb 1)=some (ae gq nQ nQ)/\w'.cell? (af nb 0)=some (ab n))/\w'.cell? (af gn (n*2))=some (ab y1)/\w'.cell? (af gn (n*2+1))=some (ab c2)/\w'.cell? (af gq (h*2))=some (ab t1)/\w'.cell? (af gq (h*2+1))=some (ab t2)) y1Z ⟨⟨hp0,hp1,hn⟩,k1,k2,k3,k4⟩ (fun hH=>?_);refine tB 0 hH ?_;refine tB 1 hH ?_;refine tB 2 hH ?_;refine tB 3 hH ?_;refine tB 4 hH ?_;refine tB 6 hH ?_;refine tB 7 hH ?_;refine tB 8 hH ?_;refine tB 9 hH ?_;refine tB 10 hH ?_;refine tL ?_;refine tS 5 fun K hK=>?_
   refine tM ?_
   go_simp;refine(HNm.out _).mono ?_;rintro e w1 ⟨rfl,hb1⟩;unfold wtV;try dsimp only
   refine hK.out _ _ ?_ fun hH=>?_
   ·exact Mz35
   clear hK K;refine tB 11 hH ?_;refine tB 12 hH ?_;refine tL ?_;refine wpAnyH_done y1Z ?_ _;have HB1:Hid (Below V.heap.size V w1):=hid ((Below.refl _ V).drew.trans hb1);clear hH hb1;go_wp2;go_ret;exact⟨by rw[decide_eq_false (fun h=>e2 (by injection h))];rfl,HB1.out⟩
 ·have e3:¬((y1:Int)=(c1:Int)):=by omega
  go_enter Tryz.func111,Tryz.ntmps111
  go_upto_region 1 with fail
  refine wp_region_held_drew (S:=fun w'=>(w'.cell? (af pb 0)=some (ae gn nN nN)/\w'.cell? (af pb 1)=some (ae gq nQ nQ)/\w'.cell? (af nb 0)=some (ab n))/\w'.cell? (af gn (n*2))=some (ab c1)/\w'.cell? (af gn (n*2+1))=some (ab c2)/\w'.cell? (af gq (h*2))=some (ab t1)/\w'.cell? (af gq (h*2+1))=some (ab t2)) y1Z ⟨⟨hp0,hp1,hn⟩,k1,k2,k3,k4⟩ (fun hH=>?_);refine tB 0 hH ?_;refine tB 1 hH ?_;refine tB 2 hH ?_;refine tB 3 hH ?_;refine tB 4 hH ?_;refine tB 6 hH ?_;refine tB 7 hH ?_;refine tB 8 hH ?_;refine tB 9 hH ?_;refine tB 10 hH ?_;refine tL ?_;refine tS 5 fun K hK=>?_
  refine tM ?_
  go_simp;refine(HNm.out _).mono ?_;rintro e w1 ⟨rfl,hb1⟩;unfold wtV;try dsimp only
  refine hK.out _ _ ?_ fun hH=>?_
  ·exact Mz35
  clear hK K;refine tB 11 hH ?_;refine tB 12 hH ?_;refine tL ?_;refine wpAnyH_done y1Z ?_ _;have HB1:Hid (Below V.heap.size V w1):=hid ((Below.refl _ V).drew.trans hb1);clear hH hb1;go_wp2;go_ret;exact⟨by rw[decide_eq_false (fun h=>e1 (by injection h))];rfl,HB1.out⟩
theorem jQ {l:List Nat} (hv:RwV w B v l) (hB:B<=w.heap.size) (hl:l.length<=1000) {cf:Nat}{lb:Array Value}{p:Nat->Bool} (he:∀args W,(callFunc cf args).run Tryz.prog W=.ok (.enter cf args) W)
  (hcf:∀V x,x∈l->Below w.heap.size w V->Calls Tryz.prog cf (#[ab (x:Int)]++lb) V fun e w'=>e=.returned (.bool (p x))/\Below V.heap.size V w') (hex:∃x∈l,p x=true):
  Calls Tryz.prog 110 #[v,.func (.func cf) #[] lb] w fun e w'=>∃i x:Nat,e=.returned (ab i)/\l[i]?=some x/\p x=true/\Below w.heap.size w w':=by
 obtain⟨ad,cap,rfl,hcap,hc⟩:=hv;obtain⟨n,hn⟩:=qF (l.length);rw[<-hn]at hcap hc hl ⊢;have HN:=hid hn;have HC:=hid hc;have HF:=hid hcf;have HE:=hid hex;clear hc hcf hex hn
 go_enter Tryz.func110,Tryz.ntmps110
 go_wp2
 go_loopw [8] (fun z wr=>∃j:Nat,j<=n/\z=ab j/\Hid (∀(m:Nat) x,m<j->l[m]?=some x->p x=false)/\Hid (Below w.heap.size w wr)) (fun z _=>n - (intOf z).toNat)
 case atStart=>exact⟨0,Nat.zero_le _,rfl,hid (fun m x h=>by omega),hid (Below.refl _ _)⟩
 case round=>
  obtain⟨j,hj,rfl,hno,hb⟩:=hrel
  by_cases hlt:j<n
  ·obtain⟨x,hx⟩:∃x,l[j]?=some x:=⟨_,gE y63Z⟩
   obtain⟨g,off,rfl,hgB,hgc⟩:=HC.out (by omega);have cx:=(hb.out.cell (p:=(af g (off+j))) y6Z).trans (hgc j x hx);have CC:=HF.out wr x (mG hx) hb.out;have HX:=hid hx;clear hx hgc;cases hp:p x
   ·rw[hp]at CC
    have HNo:Hid (∀(m:Nat) y,m<j+1->l[m]?=some y->p y=false):=hid fun m y hm hy=>by
     rcases Nat.lt_or_ge m j with h |h
     ·exact hno.out m y h hy
     ·obtain rfl:m=j:=by omega
      rw[HX.out]at hy;injection hy with hy;rw[<-hy];exact hp
    go_wp2_with (refine CC.mono ?_;rintro e w2 ⟨rfl,hb2⟩;have HB2:=hid (hb.out.trans (hb2.mono hb.out.size));clear hb2 CC)
    go_roundw
    case rel=>exact⟨j+1,by omega,by go_num,HNo,HB2⟩
    case measure=>simp[intOf];omega
   ·rw[hp]at CC
    go_wp2_with (refine CC.mono ?_;rintro e w2 ⟨rfl,hb2⟩;have HB2:=hid (hb.out.trans (hb2.mono hb.out.size));clear hb2 CC)
    go_ret;exact⟨j,x,rfl,HX.out,hp,HB2.out⟩
  ·exfalso
   obtain⟨x,hx,hp⟩:=HE.out;obtain⟨m,hm,he⟩:=List.mem_iff_getElem.1 hx;have h1:=hno.out m x y8Z (by rw[gE hm,he]);rw[hp]at h1;cases h1
end Go.Proofs.YtjjggdcnpndgjabGreatDoor
