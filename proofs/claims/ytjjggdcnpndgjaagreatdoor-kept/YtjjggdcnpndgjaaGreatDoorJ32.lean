import Derived.Test.YtjjggdcnpndgjaaGreatDoorJ31
set_option linter.unusedSimpArgs false
set_option maxHeartbeats 8000000
set_option maxRecDepth 100000
namespace Go.Proofs.YtjjggdcnpndgjaaGreatDoor
open Go.RowKit Go.Shelf
theorem YJ {W wX:World}{pb gn gq nN nQ:Nat}{a b:Value} (hb:Below W.heap.size W wX) (hp:wX.heap[pb]?=some (.cells #[.slice none 0 0,.slice none 0 0] 351 (0,0))) (hn:wX.heap[gn]?=some (.cells (BW nN nN).toArray 313 (0,0))) (hq:wX.heap[gq]?=some (.cells (BW nQ nQ).toArray 313 (0,0))) (hW:W.heap.size<=pb):
  Below W.heap.size W ((wX.setCell (af pb 0) a).setCell (af pb 1) b)/\((wX.setCell (af pb 0) a).setCell (af pb 1) b).heap[pb]?=some (.cells #[a,b] 351 (0,0))/\((wX.setCell (af pb 0) a).setCell (af pb 1) b).heap[gn]?=some (.cells (BW nN nN).toArray 313 (0,0))/\((wX.setCell (af pb 0) a).setCell (af pb 1) b).heap[gq]?=some (.cells (BW nQ nQ).toArray 313 (0,0)):=by
 have hk:A1 wX ((wX.setCell (af pb 0) a).setCell (af pb 1) b) [pb]:=((A1.refl wX [pb]).setCell (by simp) _).setCell (by simp) _;refine⟨(hb.setCell hW _).setCell hW _,A5 (j:=1) (A5 (j:=0) hp a) b,(hk.block gn (lt_of_block hn) ?_).trans hn,(hk.block gq (lt_of_block hq) ?_).trans hq⟩
 ·simpa using G7 hn hp (by decide)
 ·simpa using G7 hq hp (by decide)
theorem Mz33 {P:Prop} (h:P:=by
  exact⟨(hb2.cell (by show Q.wb<w1.heap.size;omega)).trans hH.1,(hb2.cell (by show Q.wb<w1.heap.size;omega)).trans hH.2.1,(hb2.cell (by show Q.T.tb<w1.heap.size;omega)).trans hH.2.2⟩):P:=h
theorem WW {Q:Wts}{w:World} (hQ:Q.In w) (hTl:PM Q.tls) {gi i k:Nat}{cn ct:Nat->Nat->Nat->Wt} (hK:KnR Q w gi i k cn ct) (hcn:WSm cn) (hct:WSm ct) (hik:i<=k) (hk:k<=Q.row.length) (hpt:0<Q.tls.length) {C:Array Value} (hgi:w.heap[gi]?=some (.cells C 351 (0,0))) (hC:C.size=(Q.row.length+1)*2):
  Calls Tryz.prog 190 #[ac Q.wb,ab i,ab k] w fun e w'=>e=.returned (.tuple #[])/\∃(nm ta:Nat->Wt) (C':Array Value),KnR Q w' gi i (k+1) (AK cn i k nm) (AK ct i k ta)/\FZ nm/\FZ ta/\EK Q.T.N (BK Q.tls) (FM Q.hds) Q.row (AK cn i k nm) (AK ct i k ta) i k/\A1 w w' [gi]/\w'.heap[gi]?=some (.cells C' 351 (0,0))/\C'.size=C.size:=by
 have c0:w.cell? (af Q.wb 0)=some (ac Q.T.tb):=(A0 hQ.blk).trans rfl;have c3:w.cell? (af Q.wb 3)=some (ae Q.gt Q.tls.length Q.ct):=(A0 hQ.blk).trans rfl;have c5:w.cell? (af Q.wb 5)=some (ae Q.gp (Q.row.length+1) (Q.row.length+1)):=(A0 hQ.blk).trans rfl;obtain⟨_,d1,_⟩:=hQ.tab.tv.heads;have cpi:=hK.pi;have hwl:=hQ.wlt;have hgpl:=hQ.gpl;have hwbl:=hQ.wbl;have htbl:Q.T.tb<w.heap.size:=hQ.tab.bd.tb;have hgil:=hK.gil;have hgpgi:=hK.gpl;have hr100:=hQ.r40;have htl:=hQ.tl20;have htc:=hQ.tlc2;have hn20:=hQ.tab.fc.gr.leN;have hN0:0<Q.T.N.nN:=hQ.tab.fc.gr.ok.pos;have HQ:Hid (∀V,Below Q.gp w V->Q.In V):=hid fun V hb=>hQ.below hb
 have HKR:=hid hK;have HTl:=hid hTl;have HCS:Hid (WSm cn/\WSm ct):=hid ⟨hcn,hct⟩;have HG:Hid (w.heap[gi]?=some (.cells C 351 (0,0))/\C.size=(Q.row.length+1)*2):=hid ⟨hgi,hC⟩;obtain⟨nQ,hnQ⟩:=qF (Q.tls.length);obtain⟨nN,hnN⟩:=qF (Q.T.N.nN);obtain⟨L,hL⟩:=qF (Q.row.length+1);have hiL:i<L:=by omega
 have hkL:k<L:=by omega
 have hL1:L<=101:=by omega
 have HNQ:=hid hnQ;have HNN:=hid hnN;have HL:=hid hL;rw[<-hnQ]at c3 htl htc hpt;rw[<-hnN]at d1 hn20 hN0;rw[<-hL]at c5 cpi;clear hQ hK hTl hcn hct hgi hC hnQ hnN hL
 go_enter Tryz.func190,Tryz.ntmps190
 go_upto_region 1 with fail
 obtain⟨W,hW⟩:=qE (w.alloc (.cells #[ab 1048576,ab 0] 313));have hbW:Below w.heap.size w W:=by rw[<-hW];exact(Below.refl _ w).alloc (lR_ _) _
 have u0:W.cell? (af w.heap.size 0)=some (ab 1048576):=by rw[<-hW];exact BH w _ _ 0
 have u1:W.cell? (af w.heap.size 1)=some (ab 0):=by rw[<-hW];exact BH w _ _ 1
 have hsW:w.heap.size<W.heap.size:=by rw[<-hW,World.size_alloc];omega
 rw[hW];clear hW;replace c0:=(hbW.cell (p:=(af Q.wb 0)) y19Z).trans c0;replace c3:=(hbW.cell (p:=(af Q.wb 3)) y19Z).trans c3;replace c5:=(hbW.cell (p:=(af Q.wb 5)) y19Z).trans c5;replace d1:=(hbW.cell (p:=(af Q.T.tb 1)) (by exact htbl)).trans d1;replace cpi:=(hbW.cell (p:=(af Q.gp i)) (by exact hgpl)).trans cpi;have HBW:=hid hbW;have HRn:Hid (∀V,Below W.heap.size W V->Calls Tryz.prog 216 #[ae w.heap.size 1 1,ab nN] V fun e w'=>∃g,e=.returned (ae g nN nN)/\V.heap.size<=g/\w'.heap[g]?=some (.cells (BW nN nN).toArray 313 (0,0))/\Below V.heap.size V w'):=hid fun V hb=>V4 nN w.heap.size 1 hN0 (by omega) V ((hb.cell (p:=(af w.heap.size 0)) (by exact hsW)).trans u0) ((hb.cell (p:=(af w.heap.size 1)) (by exact hsW)).trans u1)
 have HRq:Hid (∀V,Below W.heap.size W V->Calls Tryz.prog 216 #[ae w.heap.size 1 1,ab nQ] V fun e w'=>∃g,e=.returned (ae g nQ nQ)/\V.heap.size<=g/\w'.heap[g]?=some (.cells (BW nQ nQ).toArray 313 (0,0))/\Below V.heap.size V w'):=hid fun V hb=>V4 nQ w.heap.size 1 hpt (by omega) V ((hb.cell (p:=(af w.heap.size 0)) (by exact hsW)).trans u0) ((hb.cell (p:=(af w.heap.size 1)) (by exact hsW)).trans u1)
 clear hbW u0 u1;have HWd:Hid (Below W.heap.size W W.drew):=hid (Below.refl _ W).drew
 go_cut [7] (fun s7 wx=>∃(pb gn gq:Nat),s7=ac pb/\Hid (gn≠gq/\W.heap.size<=gn/\W.heap.size<=gq/\W.heap.size<=pb/\Below W.heap.size W wx/\wx.heap[pb]?=some (.cells #[ae gn nN nN,ae gq nQ nQ] 351 (0,0))/\wx.heap[gn]?=some (.cells (BW nN nN).toArray 313 (0,0))/\wx.heap[gq]?=some (.cells (BW nQ nQ).toArray 313 (0,0))))
 case first=>
  refine AC (fun w'=>w'.cell? (af Q.wb 0)=some (ac Q.T.tb)/\w'.cell? (af Q.wb 3)=some (ae Q.gt nQ Q.ct)/\w'.cell? (af Q.T.tb 1)=some (ae Q.T.gN nN Q.T.capN)) hmx y1Z ⟨c0,c3,d1⟩ (fun hH=>?_);simp only[AA,BN,AO];refine tB 0 hH ?_;refine tB 1 hH ?_;refine tB 2 hH ?_;refine tB 3 hH ?_;refine tB 4 hH ?_;refine tB 5 hH ?_;refine tB 6 hH ?_;refine tB 7 hH ?_;refine tB 8 hH ?_;refine tB 9 hH ?_;refine tB 10 hH ?_;refine tB 12 hH ?_;refine tB 13 hH ?_;refine tB 14 hH ?_;refine tB 15 hH ?_;refine tB 16 hH ?_;refine tB 17 hH ?_;refine tL ?_;refine wpAnyH_ready (rs:=[11,20]) y1Z (by simp) ?_;refine AllReadyH.cons rfl (fun K hK=>?_) (AllReadyH.cons rfl (fun K hK=>?_) AllReadyH.nil)
  ·refine tM ?_
   go_simp;refine(HRn.out _ HWd.out).mono ?_;rintro e w1 ⟨gn,rfl,hgn,hgnB,hb1⟩;try dsimp only
   refine hK.out _ _ ?_ fun hH=>?_
   ·exact⟨(hb1.cell y24Z).trans hH.1,(hb1.cell y24Z).trans hH.2.1,(hb1.cell y61Z).trans hH.2.2⟩
   clear hK K;refine tL ?_;have hs1:W.heap.size<=w1.heap.size:=hb1.size;have hgnl:gn<w1.heap.size:=lt_of_block hgnB;have hgn':W.heap.size<=gn:=hgn;have HB1:Hid (Below W.heap.size W w1):=hid (HWd.out.trans hb1);refine wpAnyH_ready (rs:=[18,20]) y1Z (by simp) ?_;refine AllReadyH.cons rfl (fun K hK=>?_) (AllReadyH.cons rfl (fun K hK=>?_) AllReadyH.nil)
   ·refine tM ?_
    go_simp;refine(HRq.out _ HB1.out).mono ?_;rintro e w2 ⟨gq,rfl,hgq,hgqB,hb2⟩;try dsimp only
    refine hK.out _ _ ?_ fun hH=>?_
    ·exact Mz33
    clear hK K;refine tL ?_;have hs2:w1.heap.size<=w2.heap.size:=hb2.size;have hgql:gq<w2.heap.size:=lt_of_block hgqB;have hgnB2:=(hb2.block gn hgnl).trans hgnB;have HB2:Hid (Below W.heap.size W w2):=hid (HB1.out.trans (hb2.mono hs1));refine tB 19 hH ?_;refine tL ?_;refine tS 20 fun K hK=>?_
    refine tM ?_;go_simp;refine hK.out _ _ ?_ fun hH=>?_
    ·exact⟨A2 _ hH.1,A2 _ hH.2.1,A2 _ hH.2.2⟩
    clear hK K;refine tB 21 hH ?_;refine tL ?_;have hpb:(w2.alloc (.cells #[.slice none 0 0,.slice none 0 0] 351)).heap[w2.heap.size]?=some (.cells #[.slice none 0 0,.slice none 0 0] 351 (0,0)):=World.alloc_heap_new w2 _;refine wpAnyH_done y1Z ?_ _;clear hH;have p0:=(A0 (j:=0) hpb).trans rfl;have p1:=(A0 (j:=1) hpb).trans rfl;have q0:=A3 (j:=0) hpb;have q1:=A3 (j:=1) hpb;show wpList _ _ _ _ _ _;go_wp2
    go_meet
    exact⟨w2.heap.size,gn,gq,rfl,hid ⟨by omega,by omega,by omega,by omega,HB2.out.alloc (by omega) _,World.alloc_heap_new w2 _,(Below.heap_alloc _ _ _ (lt_of_block hgnB2)).trans hgnB2,(Below.heap_alloc _ _ _ hgql).trans hgqB⟩⟩
   ·refine tM ?_
    go_simp;refine hK.out _ _ ?_ fun hH=>?_
    ·exact⟨A2 _ hH.1,A2 _ hH.2.1,A2 _ hH.2.2⟩
    clear hK K;refine tL ?_;have HBa:Hid (Below W.heap.size W (w1.alloc (.cells #[.slice none 0 0,.slice none 0 0] 351))):=hid (HB1.out.alloc hs1 _);have hpb:(w1.alloc (.cells #[.slice none 0 0,.slice none 0 0] 351)).heap[w1.heap.size]?=some (.cells #[.slice none 0 0,.slice none 0 0] 351 (0,0)):=World.alloc_heap_new w1 _;refine tS 18 fun K hK=>?_
    refine tM ?_
    go_simp;refine(HRq.out _ HBa.out).mono ?_;rintro e w2 ⟨gq,rfl,hgq,hgqB,hb2⟩;try dsimp only
    refine hK.out _ _ ?_ fun hH=>?_
    ·exact⟨(hb2.cell y45Z).trans hH.1,(hb2.cell y45Z).trans hH.2.1,(hb2.cell (by show Q.T.tb< (w1.alloc _).heap.size;rw[World.size_alloc];omega)).trans hH.2.2⟩
    clear hK K;refine tL ?_;have hs2:w1.heap.size+1<=w2.heap.size:=by have:=hb2.size;rw[World.size_alloc]at this;exact this
    have hgq':w1.heap.size+1<=gq:=by have:=hgq;rw[World.size_alloc]at this;exact this
    have hgnB2:=(hb2.block gn y6Z).trans ((Below.heap_alloc _ _ _ hgnl).trans hgnB);have hpb2:=(hb2.block w1.heap.size y6Z).trans hpb;have HB2:Hid (Below W.heap.size W w2):=hid (HBa.out.trans (hb2.mono y6Z));refine tB 19 hH ?_;refine tB 21 hH ?_;refine tL ?_;refine wpAnyH_done y1Z ?_ _;clear hH;have zz:=YJ (a:=ae gn nN nN) (b:=ae gq nQ nQ) HB2.out hpb2 hgnB2 hgqB (by omega);have p0:=(A0 (j:=0) hpb2).trans rfl;have p1:=(A0 (j:=1) hpb2).trans rfl;have q0:=A3 (j:=0) hpb2;have q1:=A3 (j:=1) hpb2;have HZ:=hid zz;clear zz;show wpList _ _ _ _ _ _;go_wp2
    go_meet
    exact⟨w1.heap.size,gn,gq,rfl,hid ⟨by omega,by omega,by omega,by omega,HZ.out⟩⟩
  ·refine tM ?_
   go_simp;refine hK.out _ _ ?_ fun hH=>?_
   ·exact⟨A2 _ hH.1,A2 _ hH.2.1,A2 _ hH.2.2⟩
   clear hK K;refine tL ?_;have HBa:Hid (Below W.heap.size W (W.alloc (.cells #[.slice none 0 0,.slice none 0 0] 351)).drew):=hid ((Below.refl _ W).alloc (lR_ _) _).drew;have hpb:(W.alloc (.cells #[.slice none 0 0,.slice none 0 0] 351)).drew.heap[W.heap.size]?=some (.cells #[.slice none 0 0,.slice none 0 0] 351 (0,0)):=World.alloc_heap_new W _;have hszA:(W.alloc (.cells #[.slice none 0 0,.slice none 0 0] 351)).drew.heap.size=W.heap.size+1:=World.size_alloc ..;refine tS 11 fun K hK=>?_
   refine tM ?_
   go_simp;refine(HRn.out _ HBa.out).mono ?_;rintro e w1 ⟨gn,rfl,hgn,hgnB,hb1⟩;try dsimp only
   refine hK.out _ _ ?_ fun hH=>?_
   ·exact⟨(hb1.cell y57Z).trans hH.1,(hb1.cell y57Z).trans hH.2.1,(hb1.cell (by show Q.T.tb< (W.alloc _).drew.heap.size;rw[hszA];omega)).trans hH.2.2⟩
   clear hK K;refine tL ?_;have hs1:W.heap.size+1<=w1.heap.size:=by have:=hb1.size;rw[hszA]at this;exact this
   have hgn':W.heap.size+1<=gn:=by have:=hgn;rw[hszA]at this;exact this
   have hgnl:gn<w1.heap.size:=lt_of_block hgnB;have hpb1:=(hb1.block W.heap.size (by rw[hszA];omega)).trans hpb;have HB1:Hid (Below W.heap.size W w1):=hid (HBa.out.trans (hb1.mono (by rw[hszA];omega)));refine tS 18 fun K hK=>?_
   refine tM ?_
   go_simp;refine(HRq.out _ HB1.out).mono ?_;rintro e w2 ⟨gq,rfl,hgq,hgqB,hb2⟩;try dsimp only
   refine hK.out _ _ ?_ fun hH=>?_
   ·exact Mz33
   clear hK K;refine tL ?_;have hs2:w1.heap.size<=w2.heap.size:=hb2.size;have hgnB2:=(hb2.block gn hgnl).trans hgnB;have hpb2:=(hb2.block W.heap.size (by omega)).trans hpb1;have HB2:Hid (Below W.heap.size W w2):=hid (HB1.out.trans (hb2.mono (by omega)));refine tB 19 hH ?_;refine tB 21 hH ?_;refine tL ?_;refine wpAnyH_done y1Z ?_ _;clear hH;have zz:=YJ (a:=ae gn nN nN) (b:=ae gq nQ nQ) HB2.out hpb2 hgnB2 hgqB (lR_ _);have p0:=(A0 (j:=0) hpb2).trans rfl;have p1:=(A0 (j:=1) hpb2).trans rfl;have q0:=A3 (j:=0) hpb2;have q1:=A3 (j:=1) hpb2;have HZ:=hid zz;clear zz;show wpList _ _ _ _ _ _;go_wp2
   go_meet
   exact⟨W.heap.size,gn,gq,rfl,hid ⟨by omega,by omega,by omega,by omega,HZ.out⟩⟩
 case rest=>
  obtain⟨pb,gn,gq,rfl,hx⟩:=hcut;obtain⟨hne,hgn,hgq,hpbW,hbx,hpbx,hgnx,hgqx⟩:=hx.out;have hszx:=hbx.size;have hbwx:Below w.heap.size w wc:=HBW.out.trans (hbx.mono (by omega));have hgiX:wc.heap[gi]?=some (.cells C 351 (0,0)):=(hbwx.block gi hgil).trans HG.out.1;have hC2:C.size=L*2:=by rw[HG.out.2,HL.out]
  have p0:wc.cell? (af pb 0)=some (ae gn nN nN):=(A0 hpbx).trans rfl;have p1:wc.cell? (af pb 1)=some (ae gq nQ nQ):=(A0 hpbx).trans rfl;have c5x:=(hbwx.cell (p:=(af Q.wb 5)) y19Z).trans ((HBW.out.cell (p:=(af Q.wb 5)) y19Z).symm.trans c5);have cpx:=(hbwx.cell (p:=(af Q.gp i)) (by exact hgpl)).trans ((HBW.out.cell (p:=(af Q.gp i)) (by exact hgpl)).symm.trans cpi);obtain⟨v0,hv0⟩:∃v,wc.cell? (af gi (k*2))=some v:=⟨C[k*2]'(by omega),by rw[A0 hgiX];exact Array.getElem?_eq_getElem (by omega)⟩;obtain⟨v1,hv1⟩:∃v,wc.cell? (af gi (k*2+1))=some v:=⟨C[k*2+1]'(by omega),by rw[A0 hgiX];exact Array.getElem?_eq_getElem (by omega)⟩;have hfz0:=A3 (j:=k*2) hgiX;have hfz1:=A3 (j:=k*2+1) hgiX;have HX:=hid (And.intro hbwx (And.intro hgiX (And.intro hgnx hgqx)));have hgix:gi<wc.heap.size:=by omega
  have hpbl:pb<wc.heap.size:=lt_of_block hpbx;have hgnl:gn<wc.heap.size:=lt_of_block hgnx;have hgql:gq<wc.heap.size:=lt_of_block hgqx;have hpg:pb≠gi:=by omega
  clear hbx hbwx hgiX hpbx hgnx hgqx c0 c3 d1 c5 cpi
  go_upto_region 2 with fail
  refine AC (fun w'=>w'.cell? (af Q.wb 5)=some (ae Q.gp L L)/\w'.cell? (af Q.gp i)=some (ae gi L L)/\w'.cell? (af pb 0)=some (ae gn nN nN)/\w'.cell? (af pb 1)=some (ae gq nQ nQ)) hmx y1Z ⟨c5x,cpx,p0,p1⟩ (fun hH=>?_);simp only[AA,BN,AO];refine tB 0 hH ?_;refine tB 1 hH ?_;refine tB 2 hH ?_;refine tB 3 hH ?_;refine tB 4 hH ?_;refine tB 5 hH ?_;refine tB 6 hH ?_;refine tB 7 hH ?_;refine tB 8 hH ?_;refine tB 9 hH ?_;refine tB 10 hH ?_;refine tL ?_;refine wpAnyH_done y1Z ?_ _;clear hH;show wpList _ _ _ _ _ _
  go_upto_region 3 with fail
  have hk4:A1 wc ((wc.setCell (af gi (k*2)) (ae gn nN nN)).setCell (af gi (k*2+1)) (ae gq nQ nQ)).drew [gi]:=(((A1.refl wc [gi]).setCell (by simp) _).setCell (by simp) _).drew;have hh4:((wc.setCell (af gi (k*2)) (ae gn nN nN)).setCell (af gi (k*2+1)) (ae gq nQ nQ)).drew.heap[gi]?=some (.cells ((C.setIfInBounds (k*2) (ae gn nN nN)).setIfInBounds (k*2+1) (ae gq nQ nQ)) 351 (0,0)):=A5 (j:=k*2+1) (A5 (j:=k*2) HX.out.2.1 _) _;obtain⟨W4,hW4⟩:=qE (((wc.setCell (af gi (k*2)) (ae gn nN nN)).setCell (af gi (k*2+1)) (ae gq nQ nQ)).drew);rw[hW4]at hk4 hh4 ⊢;clear hW4;have hkw4:A1 w W4 [gi]:=(A1.of_below HX.out.1 _).trans hk4;have ho4:∀j,j≠k*2->j≠k*2+1->W4.cell? (af gi j)=w.cell? (af gi j):=fun j h1 h2=>by
   rw[A0 hh4,A0 HG.out.1,Array.getElem?_setIfInBounds_ne (Ne.symm h2),Array.getElem?_setIfInBounds_ne (Ne.symm h1)]
  have hpi4:W4.cell? (af Q.gp i)=some (ae gi (Q.row.length+1) (Q.row.length+1)):=(hkw4.cell (by exact hgpl) y2Z).trans HKR.out.pi;have hs4:wc.heap.size<=W4.heap.size:=hk4.size;have hgn4:=(hk4.block gn hgnl y2Z).trans HX.out.2.2.1;have hgq4:=(hk4.block gq hgql y2Z).trans HX.out.2.2.2;have hpb4:W4.heap[pb]?=some (.cells #[ae gn nN nN,ae gq nQ nQ] 351 (0,0)):=(hk4.block pb hpbl (by simpa using hpg)).trans hx.out.2.2.2.2.2.1;have hpn4:W4.cell? (af gi (k*2))=some (ae gn nN nN):=by
   rw[A0 hh4,Array.getElem?_setIfInBounds_ne (by omega),Array.getElem?_setIfInBounds,if_pos rfl,if_pos (by omega)]
  have hpq4:W4.cell? (af gi (k*2+1))=some (ae gq nQ nQ):=by
   rw[A0 hh4,Array.getElem?_setIfInBounds,if_pos rfl,if_pos y2Z]
  have HC4:Hid (E9 Q W4 W.heap.size gi gn gq i k N5 N5):=hid (by
   rw[HNN.out]at hgn4 hpn4;rw[HNQ.out]at hgq4 hpq4;exact⟨hpi4,hpn4,hpq4,by omega,by omega,hgn,hgq,hne,by omega,by omega,nG hgn4,nG hgq4,fun j=>A3 hgn4,fun j=>A3 hgq4⟩)
  have HK4:Hid (KnP Q W4 W.heap.size i k cn ct):=hid (HKR.out.kn' hkw4 (by omega) ho4);have HQ4:Hid (Q.In W4):=hid (HQ.out W4 (hkw4.below (by omega) (fun q hq=>by rw[mS.1 hq];omega)));have c3:W4.cell? (af Q.wb 3)=some (ae Q.gt nQ Q.ct):=by rw[HNQ.out];exact(A0 HQ4.out.blk).trans rfl
  have HF4:Hid (A1 w W4 [gi]/\(∀j,j≠k*2->j≠k*2+1->W4.cell? (af gi j)=w.cell? (af gi j))/\W4.heap[gi]?=some (.cells ((C.setIfInBounds (k*2) (ae gn nN nN)).setIfInBounds (k*2+1) (ae gq nQ nQ)) 351 (0,0))/\W4.heap[pb]?=some (.cells #[ae gn nN nN,ae gq nQ nQ] 351 (0,0))):=hid ⟨hkw4,ho4,hh4,hpb4⟩;have hwB:W.heap.size<=W4.heap.size:=by omega
  have hgpB:Q.gp<=W.heap.size:=by omega
  have hpbn:pb≠gn:=by
   have h1:=G7 hgn4 hpb4 (by decide);exact fun e=>h1 e.symm
  have hpbq:pb≠gq:=by
   have h1:=G7 hgq4 hpb4 (by decide);exact fun e=>h1 e.symm
  have hpb4l:pb<W4.heap.size:=by omega
  clear hk4 hh4 hkw4 ho4 hpi4 hgn4 hgq4 hpb4 hpn4 hpq4 p0 p1 c5x cpx hv0 hv1 hfz0 hfz1 hx;go_wp2
  go_loopw [46] (fun z wr=>∃q:Nat,q<=nQ/\z=ab q/\Hid (E9 Q wr W.heap.size gi gn gq i k N5 (fun x=>if x<q then GD Q cn ct i k x else(AB,0)))/\Hid (A1 W4 wr [gq])) (fun z _=>nQ - (intOf z).toNat)
  case atStart=>exact⟨0,Nat.zero_le _,rfl,hid (by
   have e:(fun x=>if x<0 then GD Q cn ct i k x else((AB,0):Wt))=N5:=by funext x;rw[if_neg (by omega)];rfl
   rw[e];exact HC4.out),hid (A1.refl _ _)⟩
  case round=>
   obtain⟨q,hq,rfl,hcv,hkw⟩:=hrel;have hbr:Below W.heap.size W4 wr:=hkw.out.below hwB (fun x hx=>by rw[mS.1 hx];exact hgq)
   by_cases hlt:q<nQ
   ·obtain⟨o,ho⟩:∃o,Q.tls[q]?=some o:=⟨_,gE (by rw[<-HNQ.out];exact hlt)⟩
    have hQr:Q.In wr:=HQ4.out.below (hbr.mono hgpB);have hstep:∀v,v=GD Q cn ct i k q->AZ (fun x=>if x<q then GD Q cn ct i k x else((AB,0):Wt)) q v=fun x=>if x<q+1 then GD Q cn ct i k x else(AB,0):=fun v hv=>by
     funext x
     unfold AZ
     by_cases e:x=q
     ·rw[if_pos e,if_pos (by omega),hv,e]
     ·rw[if_neg e]
      by_cases e2:x<q
      ·simp only[if_pos e2,if_pos (show x<q+1 by omega)]
      ·simp only[if_neg e2,if_neg (show ¬x<q+1 by omega)]
    have HCut:Hid (Calls Tryz.prog 217 #[ac Q.wb,ab q,ab i,ab k] wr fun e w'=>e=.returned (.tuple #[])/\E9 Q w' W.heap.size gi gn gq i k N5 (fun x=>if x<q+1 then GD Q cn ct i k x else(AB,0))/\A1 wr w' [gq]):=hid (by
     have hBr:W.heap.size<=wr.heap.size:=lT_ hwB hbr.size;cases o with
     |none=>
      have h:=tK hQr hcv.out hBr hik hk ho;simp only[if_neg (Nat.lt_irrefl q)]at h;rw[hstep _ (by unfold GD;rw[ho])]at h;exact h
     |some p=>
      have h:=sF hQr hcv.out (HK4.out.below hbr (by omega)) HCS.out.1 HCS.out.2 hBr hik hk ho (MV HTl.out ho).1 (by simp);rw[hstep _ (by unfold GD;rw[ho])]at h;exact h)
    clear hstep ho hQr hbr
    go_wp2_with (go_at_call 217;refine HCut.out.mono ?_;rintro e w5 ⟨rfl,hc5,hk5⟩;have H5:=hid (And.intro hc5 hk5);clear hc5 hk5)
    go_roundw
    case rel=>exact⟨q+1,by omega,by go_num,hid H5.out.1,hid (hkw.out.trans H5.out.2)⟩
    case measure=>simp[intOf];omega
   ·have HC5:Hid (E9 Q wr W.heap.size gi gn gq i k N5 (GD Q cn ct i k)):=hid (by
     have h:=hcv.out;refine⟨h.pi,h.pn,h.pq,h.gpB,h.giB,h.gnB,h.gqB,h.ne,h.gnl,h.gql,h.nmc,fun x hx=>?_,h.nmf,h.taf⟩;have h1:=h.tac x hx;simp only[if_pos (show x<q by have:=HNQ.out;omega)]at h1;exact h1)
    have HK5:Hid (A1 W4 wr [gn,gq]):=hid (hkw.out.mono (fun x hx=>by simp[mS.1 hx]));clear hcv hkw hbr;have HM5:=hid (j7 HTl.out cn ct i k);have HQB:Hid (∀V,A1 W4 V [gn,gq]->Q.In V/\KnP Q V W.heap.size i k cn ct/\W.heap.size<=V.heap.size):=hid fun V hv=>by
     have hb:Below W.heap.size W4 V:=hv.below hwB (fun x hx=>by
      simp only[List.mem_cons,List.not_mem_nil,or_false]at hx
      rcases hx with rfl |rfl <;> assumption)
     exact⟨HQ4.out.below (hb.mono hgpB),HK4.out.below hb (by omega),lT_ hwB hb.size⟩
    go_wp2
    go_loopg [59] (muN nN N5) (fun g z wr=>∃(nm ta:Nat->Wt),g=muN nN nm/\Hid (E9 Q wr W.heap.size gi gn gq i k nm ta)/\Hid (A1 W4 wr [gn,gq])/\Hid (Mid Q.T.N (BK Q.tls) (FM Q.hds) Q.row cn ct i k nm ta)/\Hid (FZ nm/\FZ ta))
    case atStart=>exact⟨N5,GD Q cn ct i k,rfl,HC5,HK5,HM5,hid ⟨tI,kZ Q cn ct i k⟩⟩
    case round=>
     clear HC5 HK5 HM5;obtain⟨nm,ta,rfl,hcv,hkw,hmd,hsm⟩:=hrel;obtain⟨hQr,hKr,hBr⟩:=HQB.out wr hkw.out;have hpr:wr.heap[pb]?=some (.cells #[ae gn nN nN,ae gq nQ nQ] 351 (0,0)):=(hkw.out.block pb hpb4l (by simp;exact⟨hpbn,hpbq⟩)).trans HF4.out.2.2.2;have p0:wr.cell? (af pb 0)=some (ae gn nN nN):=(A0 hpr).trans rfl;have p1:wr.cell? (af pb 1)=some (ae gq nQ nQ):=(A0 hpr).trans rfl;have HR:=hid (l9 hQr HTl.out hcv.out hKr HCS.out.1 HCS.out.2 hsm.out.1 hsm.out.2 hBr hik hk);rw[<-HNN.out,<-HNQ.out]at HR;clear hQr hKr hpr
     go_wp2_with (go_at_call 218;refine HR.out.mono ?_;rintro e w5 ⟨low,nm',ta',rfl,hc5,hk5,hr5,hf5,ht5⟩;have H5:=hid (And.intro hc5 (And.intro hk5 (And.intro hr5 (And.intro hf5 ht5))));clear hc5 hk5 hr5 hf5 ht5;cases low)
     ·go_end0
      obtain⟨hc5,hk5,hr5,hf5,ht5⟩:=H5.out;obtain⟨rfl,hf6,hf7⟩:=hf5 (by trivial);have hk9:A1 W4 w5 [gn,gq]:=hkw.out.trans hk5;have hgi9:=(hk9.block gi (by omega) y2Z).trans HF4.out.2.2.1;have hkW:A1 w w5 [gi]:=HF4.out.1.trans' hk9 (fun x hx=>by
       simp only[List.mem_cons,List.not_mem_nil,or_false]at hx
       rcases hx with rfl |rfl <;> exact .inr (by omega))
      refine⟨rfl,_,ta',_,HKR.out.next hkW hc5 (by omega) (fun j h1 h2=>?_),hr5.sm.1,hr5.sm.2,(hr5.mid hmd.out).done hf6 hf7,hkW,hgi9,by simp⟩;exact(hk9.cell (p:=(af gi j)) (by show gi<W4.heap.size;omega) y2Z).trans (HF4.out.2.1 j h1 h2)
     ·go_roundg (muN nN nm')
      case measure=>
       exact H5.out.2.2.2.2 (by trivial)
      case rel=>exact⟨nm',ta',rfl,hid H5.out.1,hid (hkw.out.trans H5.out.2.1),hid (H5.out.2.2.1.mid hmd.out),hid H5.out.2.2.1.sm⟩
section
theorem Tryz.infoB346:(Tryz.prog.info? 346).map (fun i=>(i.zero,i.size,i.bytes))=some (some (.agg #[.bool false,.bool false,ab 0]),3,24):=by kernel_rfl
theorem Tryz.infoX45:(Tryz.prog.info? 45).map (fun i=>(i.zero,i.size,i.bytes))=some (some (.slice none 0 0),1,24):=by kernel_rfl
def TC (o:Option Pt):List Value:=[.bool o.isNone,.bool (M7 o),ab (M4 o)]
def FR (l:List (Option Pt)):List Value:=l.flatMap TC
theorem VX (a b:List (Option Pt)):FR (a++b)=FR a++FR b:=by unfold FR;rw[List.flatMap_append]
theorem dP (o:Option Pt):FR [o]=TC o:=by unfold FR;simp
def D4 (s:List (Option Pt) × (Nat->List Nat)) (r:Nat × List Pt):List (Option Pt) × (Nat->List Nat):=
 (s.1++r.2.map some++ [none],fun m=>if m=r.1 then s.2 m++ [s.1.length]else s.2 m)
structure GV (w:World) (B wb gh:Nat) (c0 c1 c2:Value) (nN:Nat) (vT:Value) (hv:Nat->Value) (tls:List (Option Pt)) (hds:Nat->List Nat):Prop where
 blk:w.heap[wb]?=some (.cells #[c0,c1,c2,vT,ae gh nN nN,.slice none 0 0] 306 (0,0))
 tl:w.ownsRow B 346 3 vT tls.length (FR tls)
 hb:∃cs,w.heap[gh]?=some (.cells cs 45 (0,0))/\cs.size=nN/\∀n,n<nN->cs[n]?=some (hv n)
 hi:∀n,n<nN->DD w B (hv n) (hds n)
 ap:∀n m,n<nN->m<nN->n≠m->∀g,(hv n).ownBlock=some g->(hv m).ownBlock≠some g
 ghB:B<=gh
 wbB:wb<B
section
variable {w w':World}{B wb gh nN:Nat}{c0 c1 c2 vT:Value}{hv:Nat->Value}{tls:List (Option Pt)}{hds:Nat->List Nat}
def GV.S (_:GV w B wb gh c0 c1 c2 nN vT hv tls hds) (k:Nat):Prop:=k=wb\/k=gh\/vT.ownBlock=some k\/∃n,n<nN/\(hv n).ownBlock=some k
theorem GV.keeps {S:List Nat} (h:GV w B wb gh c0 c1 c2 nN vT hv tls hds) (hk:A1 w w' S) (hS:∀k∈S,¬h.S k):GV w' B wb gh c0 c1 c2 nN vT hv tls hds where
 blk:=(hk.block wb (lt_of_block h.blk) (fun hm=>hS _ hm (.inl rfl))).trans h.blk
 tl:=A7 h.tl hk (fun g hg hm=>hS _ hm (.inr (.inr (.inl hg))))
 hb:=by
  obtain⟨cs,h1,h2⟩:=h.hb;exact⟨cs,(hk.block gh (lt_of_block h1) (fun hm=>hS _ hm (.inr (.inl rfl)))).trans h1,h2⟩
 hi:=fun n hn=>A7 (h.hi n hn) hk (fun g hg hm=>hS _ hm (.inr (.inr (.inr ⟨n,hn,hg⟩))))
 ap:=h.ap
 ghB:=h.ghB
 wbB:=h.wbB
theorem GV.kinds (h:GV w B wb gh c0 c1 c2 nN vT hv tls hds) {k:Nat} (hk:h.S k):∃c e f,w.heap[k]?=some (.cells c e f):=by
 rcases hk with rfl |rfl |hk | ⟨n,hn,hk⟩
 ·exact⟨_,_,_,h.blk⟩
 ·obtain⟨cs,h1,_⟩:=h.hb;exact⟨_,_,_,h1⟩
 ·obtain⟨c,hc⟩:=BJ h.tl hk;exact⟨_,_,_,hc⟩
 ·obtain⟨c,hc⟩:=BJ (h.hi n hn) hk;exact⟨_,_,_,hc⟩
theorem GV.step {row:Option Nat} (h:GV w B wb gh c0 c1 c2 nN vT hv tls hds) (hg:w.grownBy w' row) (hr:∀r,row=some r->∃o:Obj,w.heap[r]?=some o/\o.isCells=false):GV w' B wb gh c0 c1 c2 nN vT hv tls hds:=by
 refine h.keeps ((A1.refl w row.toList).grown hg (fun k e=>.inl y26Z)) (fun k hk hS=>?_);obtain⟨c,e,f,h1⟩:=h.kinds hS;obtain⟨o,h2,h3⟩:=hr k (by simpa using hk);rw[h1]at h2;injection h2 with h2
 subst h2;cases h3
theorem GV.tail {Wa w1:World}{v':Value}{o:Option Pt} (h:GV w B wb gh c0 c1 c2 nN vT hv tls hds) (hka:A1 w Wa []) (hgrow:Wa.grownBy w1 vT.ownBlock) (hown:w1.ownsRow B 346 3 v' (tls.length+1) (FR tls++TC o)):
  w1.heap[wb]?=some (.cells #[c0,c1,c2,vT,ae gh nN nN,.slice none 0 0] 306 (0,0))/\GV (w1.setCell (af wb 3) v') B wb gh c0 c1 c2 nN v' hv (tls++ [o]) hds/\A1 w (w1.setCell (af wb 3) v') (wb::vT.ownBlock.toList):=by
 obtain⟨z1,z2,z3,z4⟩:=EQ (j:=3) hka h.blk (by decide) h.tl hown hgrow;obtain⟨cs,hg1,hg2⟩:=h.hb;have hgw:gh∉wb::vT.ownBlock.toList:=fun hm=>by
  rcases List.mem_cons.1 hm with e |e
  ·have:=h.ghB;have:=h.wbB;omega
  ·exact A6 h.tl hg1 (by decide) y5Z
 refine⟨z1,⟨z2,?_,⟨cs,(z4.block gh (lt_of_block hg1) hgw).trans hg1,hg2⟩,fun n hn=>A7 (h.hi n hn) z4 (fun g hg hm=>?_),h.ap,h.ghB,h.wbB⟩,z4⟩
 ·rw[lA,List.length_singleton,VX,dP]
  exact z3
 ·rcases List.mem_cons.1 hm with e |e
  ·have:=((h.hi n hn).lt g hg).1;have:=h.wbB;omega
  ·exact GH (h.hi n hn) h.tl (by decide) hg y5Z
theorem GV.head {Wa w1:World}{v':Value}{n x:Nat} (h:GV w B wb gh c0 c1 c2 nN vT hv tls hds) (hn:n<nN) (hka:A1 w Wa []) (hgrow:Wa.grownBy w1 (hv n).ownBlock) (hown:w1.ownsRow B 3 1 v' ((hds n).length+1) (DE (hds n)++ [ab x])) (hfr:BI w.heap.size (hv n) v'):
  (∃cs,w1.heap[gh]?=some (.cells cs 45 (0,0))/\cs[n]?=some (hv n))/\GV (w1.setCell (af gh n) v') B wb gh c0 c1 c2 nN vT (fun m=>if m=n then v' else hv m) tls (fun m=>if m=n then hds m++ [x]else hds m)/\A1 w (w1.setCell (af gh n) v') (gh::(hv n).ownBlock.toList):=by
 obtain⟨cs,hg1,hg2,hg3⟩:=h.hb;obtain⟨z1,z2,z3,z4⟩:=EQ (j:=n) hka hg1 (by decide) (h.hi n hn) hown hgrow;refine⟨⟨cs,z1,hg3 n hn⟩,⟨(z4.block wb (lt_of_block h.blk) (fun hm=>?_)).trans h.blk,A7 h.tl z4 (fun g hg hm=>?_),⟨_,z2,by simpa using hg2,fun m hm=>?_⟩,fun m hm=>?_,fun m m' hm hm' hne g hg=>?_,h.ghB,h.wbB⟩,z4⟩
 ·rcases List.mem_cons.1 hm with e |e
  ·have:=h.ghB;have:=h.wbB;omega
  ·have:=((h.hi n hn).lt wb y5Z).1;have:=h.wbB;omega
 ·rcases List.mem_cons.1 hm with e |e
  ·subst e;exact A6 h.tl hg1 (by decide) hg
  ·exact GH h.tl (h.hi n hn) (by decide) hg y5Z
 ·by_cases e:m=n
  ·subst e
   rw[if_pos rfl,Array.getElem?_setIfInBounds,if_pos rfl,if_pos (by omega)]
  ·rw[if_neg e,Array.getElem?_setIfInBounds_ne (Ne.symm e)]
   exact hg3 m hm
 ·by_cases e:m=n
  ·subst e
   simp only[if_pos];unfold DD;rw[lA,GN];exact z3
  ·simp only[if_neg e]
   refine A7 (h.hi m hm) z4 (fun g hg hmm=>?_)
   rcases List.mem_cons.1 hmm with e2 |e2
   ·subst e2;exact A6 (h.hi m hm) hg1 (by decide) hg
   ·exact h.ap m n hm hn e g hg (by simpa using e2)
 ·have hlt:∀k,k<nN->∀g,(hv k).ownBlock=some g->g<w.heap.size:=fun k hk g hg=>CY (h.hi k hk) hg
  show(if m'=n then v' else hv m').ownBlock≠some g;have hg:(if m=n then v' else hv m).ownBlock=some g:=hg
  by_cases e:m=n
  ·rw[if_pos e]at hg
   rw[if_neg (by omega)]
   rcases hfr g hg with h1 |h1
   ·exact h.ap n m' hn hm' (by omega) g h1
   ·intro h2;have:=hlt m' hm' g h2;omega
  ·rw[if_neg e]at hg
   by_cases e2:m'=n
   ·rw[if_pos e2]
    intro h2
    rcases hfr g h2 with h1 |h1
    ·exact h.ap m n hm hn e g hg h1
    ·have:=hlt m hm g hg;omega
   ·rw[if_neg e2]
    exact h.ap m m' hm hm' hne g hg
end
end
end Go.Proofs.YtjjggdcnpndgjaaGreatDoor
