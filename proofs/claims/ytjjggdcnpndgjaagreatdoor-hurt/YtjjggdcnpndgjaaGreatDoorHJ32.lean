import Derived.Test.YtjjggdcnpndgjaaGreatDoorHJ31
set_option linter.unusedSimpArgs false
set_option maxHeartbeats 8000000
set_option maxRecDepth 100000
namespace Go.Proofs.YtjjggdcnpndgjaaGreatDoor
open Go.RowKit Go.Shelf
theorem XW {W wX:World}{pb gn gq nN nQ:Nat}{a b:Value} (hb:Below W.heap.size W wX) (hp:wX.heap[pb]?=some (.cells #[.slice none 0 0,.slice none 0 0] 351 (0,0))) (hn:wX.heap[gn]?=some (.cells (BS nN nN).toArray 313 (0,0))) (hq:wX.heap[gq]?=some (.cells (BS nQ nQ).toArray 313 (0,0))) (hW:W.heap.size<=pb):
  Below W.heap.size W ((wX.setCell (af pb 0) a).setCell (af pb 1) b)/\((wX.setCell (af pb 0) a).setCell (af pb 1) b).heap[pb]?=some (.cells #[a,b] 351 (0,0))/\((wX.setCell (af pb 0) a).setCell (af pb 1) b).heap[gn]?=some (.cells (BS nN nN).toArray 313 (0,0))/\((wX.setCell (af pb 0) a).setCell (af pb 1) b).heap[gq]?=some (.cells (BS nQ nQ).toArray 313 (0,0)):=by
 have hk:A1 wX ((wX.setCell (af pb 0) a).setCell (af pb 1) b) [pb]:=((A1.refl wX [pb]).setCell (by simp) _).setCell (by simp) _;refine⟨(hb.setCell hW _).setCell hW _,A6 (j:=1) (A6 (j:=0) hp a) b,(hk.block gn (ak hn) ?_).trans hn,(hk.block gq (ak hq) ?_).trans hq⟩
 ·simpa using G5 hn hp (by decide)
 ·simpa using G5 hq hp (by decide)
theorem agB {P:Prop} (h:P:=by
  exact⟨(hb2.cell (by show Q.wb<w1.heap.size;omega)).trans hH.1,(hb2.cell (by show Q.wb<w1.heap.size;omega)).trans hH.2.1,(hb2.cell (by show Q.T.tb<w1.heap.size;omega)).trans hH.2.2⟩):P:=h
theorem WS {Q:zu}{w:World} (hQ:Q.In w) (Mc:PG Q.yQ) {gi i k:Nat}{cn ct:Nat->Nat->Nat->Wt} (hK:Qq Q w gi i k cn ct) (Es:Fl cn) (hct:Fl ct) (hik:i<=k) (hk:k<=Q.row.length) (Ae:0<Q.yQ.length) {C:Array Value} (Kz:w.heap[gi]?=some (.cells C 351 (0,0))) (hC:C.size=(Q.row.length+1)*2):
  Calls Tryz.prog 190 #[ac Q.wb,ab i,ab k] w λe w'=>e=.returned (.tuple #[])/\∃(nm ta:Nat->Wt) (C':Array Value),Qq Q w' gi i (k+1) (AK cn i k nm) (AK ct i k ta)/\FX nm/\FX ta/\EH Q.T.N (BJ Q.yQ) (FJ Q.hds) Q.row (AK cn i k nm) (AK ct i k ta) i k/\A1 w w' [gi]/\w'.heap[gi]?=some (.cells C' 351 (0,0))/\C'.size=C.size:=by
 have c0:w.cell? (af Q.wb 0)=some (ac Q.T.tb):=(A0 hQ.blk).trans rfl;have c3:w.cell? (af Q.wb 3)=some (ae Q.gt Q.yQ.length Q.ct):=(A0 hQ.blk).trans rfl;have c5:w.cell? (af Q.wb 5)=some (ae Q.gp (Q.row.length+1) (Q.row.length+1)):=(A0 hQ.blk).trans rfl;obtain⟨_,d1,_⟩:=hQ.tab.tv.Ar;have cpi:=hK.pi;have Au:=hQ.zG;have Sr:=hQ.Dd;have aas:=hQ.Mp;have abk:Q.T.tb<w.heap.size:=hQ.tab.bd.tb;have ajm:=hK.Uv;have aly:=hK.Dd;have Hu:=hQ.Em;have Bk:=hQ.Ql;have Oc:=hQ.Qm;have zU:=hQ.tab.fc.gr.Bt;have hN0:0<Q.T.N.nN:=hQ.tab.fc.gr.ok.pos;have HQ:Hid (∀V,Below Q.gp w V->Q.In V):=hid λV hb=>hQ.below hb
 have HKR:=hid hK;have Ut:=hid Mc;have Bw:Hid (Fl cn/\Fl ct):=hid ⟨Es,hct⟩;have HG:Hid (w.heap[gi]?=some (.cells C 351 (0,0))/\C.size=(Q.row.length+1)*2):=hid ⟨Kz,hC⟩;obtain⟨nQ,Dw⟩:=qF (Q.yQ.length);obtain⟨nN,yY⟩:=qF (Q.T.N.nN);obtain⟨L,hL⟩:=qF (Q.row.length+1);have hiL:i<L:=by omega
 have hkL:k<L:=by omega
 have Cb:L<=101:=by omega
 have Mt:=hid Dw;have Ec:=hid yY;have HL:=hid hL;rw[<-Dw]at c3 Bk Oc Ae;rw[<-yY]at d1 zU hN0;rw[<-hL]at c5 cpi;clear hQ hK Mc Es hct Kz hC Dw yY hL
 go_enter Tryz.func190,Tryz.ntmps190
 go_upto_region 1 with fail
 obtain⟨W,hW⟩:=qE (w.alloc (.cells #[ab 1048576,ab 0] 313));have hbW:Below w.heap.size w W:=by rw[<-hW];exact(ah _ w).alloc (yF _) _
 have u0:W.cell? (af w.heap.size 0)=some (ab 1048576):=by rw[<-hW];exact BF w _ _ 0
 have u1:W.cell? (af w.heap.size 1)=some (ab 0):=by rw[<-hW];exact BF w _ _ 1
 have hsW:w.heap.size<W.heap.size:=by rw[<-hW,bg];omega
 rw[hW];clear hW;replace c0:=(hbW.cell (p:=(af Q.wb 0)) Gd).trans c0;replace c3:=(hbW.cell (p:=(af Q.wb 3)) Gd).trans c3;replace c5:=(hbW.cell (p:=(af Q.wb 5)) Gd).trans c5;replace d1:=(hbW.cell (p:=(af Q.T.tb 1)) (by exact abk)).trans d1;replace cpi:=(hbW.cell (p:=(af Q.gp i)) (by exact Sr)).trans cpi;have Hp:=hid hbW;have HRn:Hid (∀V,Below W.heap.size W V->Calls Tryz.prog 216 #[ae w.heap.size 1 1,ab nN] V λe w'=>∃g,e=.returned (ae g nN nN)/\V.heap.size<=g/\w'.heap[g]?=some (.cells (BS nN nN).toArray 313 (0,0))/\Below V.heap.size V w'):=hid λV hb=>UF nN w.heap.size 1 hN0 (by omega) V ((hb.cell (p:=(af w.heap.size 0)) (by exact hsW)).trans u0) ((hb.cell (p:=(af w.heap.size 1)) (by exact hsW)).trans u1)
 have HRq:Hid (∀V,Below W.heap.size W V->Calls Tryz.prog 216 #[ae w.heap.size 1 1,ab nQ] V λe w'=>∃g,e=.returned (ae g nQ nQ)/\V.heap.size<=g/\w'.heap[g]?=some (.cells (BS nQ nQ).toArray 313 (0,0))/\Below V.heap.size V w'):=hid λV hb=>UF nQ w.heap.size 1 Ae (by omega) V ((hb.cell (p:=(af w.heap.size 0)) (by exact hsW)).trans u0) ((hb.cell (p:=(af w.heap.size 1)) (by exact hsW)).trans u1)
 clear hbW u0 u1;have Jf:Hid (Below W.heap.size W W.drew):=hid (ah _ W).drew
 go_cut [7] (λs7 wx=>∃(pb gn gq:Nat),s7=ac pb/\Hid (gn≠gq/\W.heap.size<=gn/\W.heap.size<=gq/\W.heap.size<=pb/\Below W.heap.size W wx/\wx.heap[pb]?=some (.cells #[ae gn nN nN,ae gq nQ nQ] 351 (0,0))/\wx.heap[gn]?=some (.cells (BS nN nN).toArray 313 (0,0))/\wx.heap[gq]?=some (.cells (BS nQ nQ).toArray 313 (0,0))))
 case first=>
  refine AE (λw'=>w'.cell? (af Q.wb 0)=some (ac Q.T.tb)/\w'.cell? (af Q.wb 3)=some (ae Q.gt nQ Q.ct)/\w'.cell? (af Q.T.tb 1)=some (ae Q.T.gN nN Q.T.xY)) hmx yg ⟨c0,c3,d1⟩ (λhH=>?_);simp only[AB,BM,AO];refine tB 0 hH ?_;refine tB 1 hH ?_;refine tB 2 hH ?_;refine tB 3 hH ?_;refine tB 4 hH ?_;refine tB 5 hH ?_;refine tB 6 hH ?_;refine tB 7 hH ?_;refine tB 8 hH ?_;refine tB 9 hH ?_;refine tB 10 hH ?_;refine tB 12 hH ?_;refine tB 13 hH ?_;refine tB 14 hH ?_;refine tB 15 hH ?_;refine tB 16 hH ?_;refine tB 17 hH ?_;refine tL ?_;refine wpAnyH_ready (rs:=[11,20]) yg (by simp) ?_;refine vp rfl (λK hK=>?_) (vp rfl (λK hK=>?_) AllReadyH.nil)
  ·refine tM ?_
   go_simp;refine(HRn.out _ Jf.out).mono ?_;rintro e w1 ⟨gn,rfl,Qr,Us,hb1⟩;try dsimp only
   refine hK.out _ _ ?_ λhH=>?_
   ·exact⟨(hb1.cell Zr).trans hH.1,(hb1.cell Zr).trans hH.2.1,(hb1.cell acX).trans hH.2.2⟩
   clear hK K;refine tL ?_;have hs1:W.heap.size<=w1.heap.size:=hb1.size;have Ye:gn<w1.heap.size:=ak Us;have ajn:W.heap.size<=gn:=Qr;have yR:Hid (Below W.heap.size W w1):=hid (Jf.out.trans hb1);refine wpAnyH_ready (rs:=[18,20]) yg (by simp) ?_;refine vp rfl (λK hK=>?_) (vp rfl (λK hK=>?_) AllReadyH.nil)
   ·refine tM ?_
    go_simp;refine(HRq.out _ yR.out).mono ?_;rintro e w2 ⟨gq,rfl,Su,Iw,hb2⟩;try dsimp only
    refine hK.out _ _ ?_ λhH=>?_
    ·exact agB
    clear hK K;refine tL ?_;have hs2:w1.heap.size<=w2.heap.size:=hb2.size;have aco:gq<w2.heap.size:=ak Iw;have aat:=(hb2.block gn Ye).trans Us;have yV:Hid (Below W.heap.size W w2):=hid (yR.out.trans (hb2.mono hs1));refine tB 19 hH ?_;refine tL ?_;refine tS 20 λK hK=>?_
    refine tM ?_;go_simp;refine hK.out _ _ ?_ λhH=>?_
    ·exact⟨A2 _ hH.1,A2 _ hH.2.1,A2 _ hH.2.2⟩
    clear hK K;refine tB 21 hH ?_;refine tL ?_;have Qc:(w2.alloc (.cells #[.slice none 0 0,.slice none 0 0] 351)).heap[w2.heap.size]?=some (.cells #[.slice none 0 0,.slice none 0 0] 351 (0,0)):=ay w2 _;refine bk yg ?_ _;clear hH;have p0:=(A0 (j:=0) Qc).trans rfl;have p1:=(A0 (j:=1) Qc).trans rfl;have q0:=A3 (j:=0) Qc;have q1:=A3 (j:=1) Qc;show wpList _ _ _ _ _ _;go_wp2
    go_meet
    exact⟨w2.heap.size,gn,gq,rfl,hid ⟨by omega,by omega,by omega,by omega,yV.out.alloc (by omega) _,ay w2 _,(dm _ _ _ (ak aat)).trans aat,(dm _ _ _ aco).trans Iw⟩⟩
   ·refine tM ?_
    go_simp;refine hK.out _ _ ?_ λhH=>?_
    ·exact⟨A2 _ hH.1,A2 _ hH.2.1,A2 _ hH.2.2⟩
    clear hK K;refine tL ?_;have HBa:Hid (Below W.heap.size W (w1.alloc (.cells #[.slice none 0 0,.slice none 0 0] 351))):=hid (yR.out.alloc hs1 _);have Qc:(w1.alloc (.cells #[.slice none 0 0,.slice none 0 0] 351)).heap[w1.heap.size]?=some (.cells #[.slice none 0 0,.slice none 0 0] 351 (0,0)):=ay w1 _;refine tS 18 λK hK=>?_
    refine tM ?_
    go_simp;refine(HRq.out _ HBa.out).mono ?_;rintro e w2 ⟨gq,rfl,Su,Iw,hb2⟩;try dsimp only
    refine hK.out _ _ ?_ λhH=>?_
    ·exact⟨(hb2.cell aeZ).trans hH.1,(hb2.cell aeZ).trans hH.2.1,(hb2.cell (by show Q.T.tb< (w1.alloc _).heap.size;rw[bg];omega)).trans hH.2.2⟩
    clear hK K;refine tL ?_;have hs2:w1.heap.size+1<=w2.heap.size:=by have:=hb2.size;rw[bg]at this;exact this
    have alz:w1.heap.size+1<=gq:=by have:=Su;rw[bg]at this;exact this
    have aat:=(hb2.block gn Hw).trans ((dm _ _ _ Ye).trans Us);have Oj:=(hb2.block w1.heap.size Hw).trans Qc;have yV:Hid (Below W.heap.size W w2):=hid (HBa.out.trans (hb2.mono Hw));refine tB 19 hH ?_;refine tB 21 hH ?_;refine tL ?_;refine bk yg ?_ _;clear hH;have zz:=XW (a:=ae gn nN nN) (b:=ae gq nQ nQ) yV.out Oj aat Iw (by omega);have p0:=(A0 (j:=0) Oj).trans rfl;have p1:=(A0 (j:=1) Oj).trans rfl;have q0:=A3 (j:=0) Oj;have q1:=A3 (j:=1) Oj;have HZ:=hid zz;clear zz;show wpList _ _ _ _ _ _;go_wp2
    go_meet
    exact⟨w1.heap.size,gn,gq,rfl,hid ⟨by omega,by omega,by omega,by omega,HZ.out⟩⟩
  ·refine tM ?_
   go_simp;refine hK.out _ _ ?_ λhH=>?_
   ·exact⟨A2 _ hH.1,A2 _ hH.2.1,A2 _ hH.2.2⟩
   clear hK K;refine tL ?_;have HBa:Hid (Below W.heap.size W (W.alloc (.cells #[.slice none 0 0,.slice none 0 0] 351)).drew):=hid ((ah _ W).alloc (yF _) _).drew;have Qc:(W.alloc (.cells #[.slice none 0 0,.slice none 0 0] 351)).drew.heap[W.heap.size]?=some (.cells #[.slice none 0 0,.slice none 0 0] 351 (0,0)):=ay W _;have Zx:(W.alloc (.cells #[.slice none 0 0,.slice none 0 0] 351)).drew.heap.size=W.heap.size+1:=bg ..;refine tS 11 λK hK=>?_
   refine tM ?_
   go_simp;refine(HRn.out _ HBa.out).mono ?_;rintro e w1 ⟨gn,rfl,Qr,Us,hb1⟩;try dsimp only
   refine hK.out _ _ ?_ λhH=>?_
   ·exact⟨(hb1.cell ae0).trans hH.1,(hb1.cell ae0).trans hH.2.1,(hb1.cell (by show Q.T.tb< (W.alloc _).drew.heap.size;rw[Zx];omega)).trans hH.2.2⟩
   clear hK K;refine tL ?_;have hs1:W.heap.size+1<=w1.heap.size:=by have:=hb1.size;rw[Zx]at this;exact this
   have ajn:W.heap.size+1<=gn:=by have:=Qr;rw[Zx]at this;exact this
   have Ye:gn<w1.heap.size:=ak Us;have ajo:=(hb1.block W.heap.size (by rw[Zx];omega)).trans Qc;have yR:Hid (Below W.heap.size W w1):=hid (HBa.out.trans (hb1.mono (by rw[Zx];omega)));refine tS 18 λK hK=>?_
   refine tM ?_
   go_simp;refine(HRq.out _ yR.out).mono ?_;rintro e w2 ⟨gq,rfl,Su,Iw,hb2⟩;try dsimp only
   refine hK.out _ _ ?_ λhH=>?_
   ·exact agB
   clear hK K;refine tL ?_;have hs2:w1.heap.size<=w2.heap.size:=hb2.size;have aat:=(hb2.block gn Ye).trans Us;have Oj:=(hb2.block W.heap.size (by omega)).trans ajo;have yV:Hid (Below W.heap.size W w2):=hid (yR.out.trans (hb2.mono (by omega)));refine tB 19 hH ?_;refine tB 21 hH ?_;refine tL ?_;refine bk yg ?_ _;clear hH;have zz:=XW (a:=ae gn nN nN) (b:=ae gq nQ nQ) yV.out Oj aat Iw (yF _);have p0:=(A0 (j:=0) Oj).trans rfl;have p1:=(A0 (j:=1) Oj).trans rfl;have q0:=A3 (j:=0) Oj;have q1:=A3 (j:=1) Oj;have HZ:=hid zz;clear zz;show wpList _ _ _ _ _ _;go_wp2
   go_meet
   exact⟨W.heap.size,gn,gq,rfl,hid ⟨by omega,by omega,by omega,by omega,HZ.out⟩⟩
 case rest=>
  obtain⟨pb,gn,gq,rfl,hx⟩:=hcut;obtain⟨hne,Qr,Su,alA,Iu,acy,ad9,aea⟩:=hx.out;have alB:=Iu.size;have abl:Below w.heap.size w wc:=Hp.out.trans (Iu.mono (by omega));have aau:wc.heap[gi]?=some (.cells C 351 (0,0)):=(abl.block gi ajm).trans HG.out.1;have hC2:C.size=L*2:=by rw[HG.out.2,HL.out]
  have p0:wc.cell? (af pb 0)=some (ae gn nN nN):=(A0 acy).trans rfl;have p1:wc.cell? (af pb 1)=some (ae gq nQ nQ):=(A0 acy).trans rfl;have c5x:=(abl.cell (p:=(af Q.wb 5)) Gd).trans ((Hp.out.cell (p:=(af Q.wb 5)) Gd).symm.trans c5);have cpx:=(abl.cell (p:=(af Q.gp i)) (by exact Sr)).trans ((Hp.out.cell (p:=(af Q.gp i)) (by exact Sr)).symm.trans cpi);obtain⟨v0,hv0⟩:∃v,wc.cell? (af gi (k*2))=some v:=⟨C[k*2]'(by omega),by rw[A0 aau];exact jt (by omega)⟩;obtain⟨v1,hv1⟩:∃v,wc.cell? (af gi (k*2+1))=some v:=⟨C[k*2+1]'(by omega),by rw[A0 aau];exact jt (by omega)⟩;have ajp:=A3 (j:=k*2) aau;have ajq:=A3 (j:=k*2+1) aau;have HX:=hid (And.intro abl (And.intro aau (And.intro ad9 aea)));have alC:gi<wc.heap.size:=by omega
  have ajr:pb<wc.heap.size:=ak acy;have Ye:gn<wc.heap.size:=ak ad9;have aco:gq<wc.heap.size:=ak aea;have hpg:pb≠gi:=by omega
  clear Iu abl aau acy ad9 aea c0 c3 d1 c5 cpi
  go_upto_region 2 with fail
  refine AE (λw'=>w'.cell? (af Q.wb 5)=some (ae Q.gp L L)/\w'.cell? (af Q.gp i)=some (ae gi L L)/\w'.cell? (af pb 0)=some (ae gn nN nN)/\w'.cell? (af pb 1)=some (ae gq nQ nQ)) hmx yg ⟨c5x,cpx,p0,p1⟩ (λhH=>?_);simp only[AB,BM,AO];refine tB 0 hH ?_;refine tB 1 hH ?_;refine tB 2 hH ?_;refine tB 3 hH ?_;refine tB 4 hH ?_;refine tB 5 hH ?_;refine tB 6 hH ?_;refine tB 7 hH ?_;refine tB 8 hH ?_;refine tB 9 hH ?_;refine tB 10 hH ?_;refine tL ?_;refine bk yg ?_ _;clear hH;show wpList _ _ _ _ _ _
  go_upto_region 3 with fail
  have hk4:A1 wc ((wc.setCell (af gi (k*2)) (ae gn nN nN)).setCell (af gi (k*2+1)) (ae gq nQ nQ)).drew [gi]:=(((A1.refl wc [gi]).setCell (by simp) _).setCell (by simp) _).drew;have hh4:((wc.setCell (af gi (k*2)) (ae gn nN nN)).setCell (af gi (k*2+1)) (ae gq nQ nQ)).drew.heap[gi]?=some (.cells ((C.setIfInBounds (k*2) (ae gn nN nN)).setIfInBounds (k*2+1) (ae gq nQ nQ)) 351 (0,0)):=A6 (j:=k*2+1) (A6 (j:=k*2) HX.out.2.1 _) _;obtain⟨W4,Dv⟩:=qE (((wc.setCell (af gi (k*2)) (ae gn nN nN)).setCell (af gi (k*2+1)) (ae gq nQ nQ)).drew);rw[Dv]at hk4 hh4 ⊢;clear Dv;have abm:A1 w W4 [gi]:=(A1.yX HX.out.1 _).trans hk4;have ho4:∀j,j≠k*2->j≠k*2+1->W4.cell? (af gi j)=w.cell? (af gi j):=λj h1 h2=>by
   rw[A0 hh4,A0 HG.out.1,dz (xP h2),dz (xP h1)]
  have agC:W4.cell? (af Q.gp i)=some (ae gi (Q.row.length+1) (Q.row.length+1)):=(abm.cell (by exact Sr) yM).trans HKR.out.pi;have Ea:wc.heap.size<=W4.heap.size:=hk4.size;have abn:=(hk4.block gn Ye yM).trans HX.out.2.2.1;have abo:=(hk4.block gq aco yM).trans HX.out.2.2.2;have acz:W4.heap[pb]?=some (.cells #[ae gn nN nN,ae gq nQ nQ] 351 (0,0)):=(hk4.block pb ajr (by simpa using hpg)).trans hx.out.2.2.2.2.2.1;have aeb:W4.cell? (af gi (k*2))=some (ae gn nN nN):=by
   rw[A0 hh4,dz (by omega),qm,aq rfl,aq (by omega)]
  have aec:W4.cell? (af gi (k*2+1))=some (ae gq nQ nQ):=by
   rw[A0 hh4,qm,aq rfl,aq yM]
  have Ge:Hid (DZ Q W4 W.heap.size gi gn gq i k MS MS):=hid (by
   rw[Ec.out]at abn aeb;rw[Mt.out]at abo aec;exact⟨agC,aeb,aec,by omega,by omega,Qr,Su,hne,by omega,by omega,oO abn,oO abo,λj=>A3 abn,λj=>A3 abo⟩)
  have Ht:Hid (Mr Q W4 W.heap.size i k cn ct):=hid (HKR.out.kn' abm (by omega) ho4);have HQ4:Hid (Q.In W4):=hid (HQ.out W4 (abm.below (by omega) (λq hq=>by rw[mS.1 hq];omega)));have c3:W4.cell? (af Q.wb 3)=some (ae Q.gt nQ Q.ct):=by rw[Mt.out];exact(A0 HQ4.out.blk).trans rfl
  have HF4:Hid (A1 w W4 [gi]/\(∀j,j≠k*2->j≠k*2+1->W4.cell? (af gi j)=w.cell? (af gi j))/\W4.heap[gi]?=some (.cells ((C.setIfInBounds (k*2) (ae gn nN nN)).setIfInBounds (k*2+1) (ae gq nQ nQ)) 351 (0,0))/\W4.heap[pb]?=some (.cells #[ae gn nN nN,ae gq nQ nQ] 351 (0,0))):=hid ⟨abm,ho4,hh4,acz⟩;have Qs:W.heap.size<=W4.heap.size:=by omega
  have Sv:Q.gp<=W.heap.size:=by omega
  have ajs:pb≠gn:=by
   have h1:=G5 abn acz (by decide);exact λe=>h1 e.symm
  have ajt:pb≠gq:=by
   have h1:=G5 abo acz (by decide);exact λe=>h1 e.symm
  have aju:pb<W4.heap.size:=by omega
  clear hk4 hh4 abm ho4 agC abn abo acz aeb aec p0 p1 c5x cpx hv0 hv1 ajp ajq hx;go_wp2
  go_loopw [46] (λz wr=>∃q:Nat,q<=nQ/\z=ab q/\Hid (DZ Q wr W.heap.size gi gn gq i k MS (λx=>if x<q then GA Q cn ct i k x else(AC,0)))/\Hid (A1 W4 wr [gq])) (λz _=>nQ - (intOf z).toNat)
  case atStart=>exact⟨0,bu _,rfl,hid (by
   have e:(λx=>if x<0 then GA Q cn ct i k x else((AC,0):Wt))=MS:=by funext x;rw[au (by omega)];rfl
   rw[e];exact Ge.out),hid (A1.refl _ _)⟩
  case round=>
   obtain⟨q,hq,rfl,hcv,y7⟩:=hrel;have hbr:Below W.heap.size W4 wr:=y7.out.below Qs (λx hx=>by rw[mS.1 hx];exact Su)
   by_cases hlt:q<nQ
   ·obtain⟨o,ho⟩:∃o,Q.yQ[q]?=some o:=⟨_,gE (by rw[<-Mt.out];exact hlt)⟩
    have Dx:Q.In wr:=HQ4.out.below (hbr.mono Sv);have hstep:∀v,v=GA Q cn ct i k q->AY (λx=>if x<q then GA Q cn ct i k x else((AC,0):Wt)) q v=λx=>if x<q+1 then GA Q cn ct i k x else(AC,0):=λv hv=>by
     funext x
     unfold AY
     by_cases e:x=q
     ·rw[aq e,aq (by omega),hv,e]
     ·rw[au e]
      by_cases e2:x<q
      ·simp only[aq e2,aq (show x<q+1 by omega)]
      ·simp only[au e2,au (show ¬x<q+1 by omega)]
    have acA:Hid (Calls Tryz.prog 217 #[ac Q.wb,ab q,ab i,ab k] wr λe w'=>e=.returned (.tuple #[])/\DZ Q w' W.heap.size gi gn gq i k MS (λx=>if x<q+1 then GA Q cn ct i k x else(AC,0))/\A1 wr w' [gq]):=hid (by
     have Ed:W.heap.size<=wr.heap.size:=y5 Qs hbr.size;cases o with
     |none=>
      have h:=tE Dx hcv.out Ed hik hk ho;simp only[au (Nat.lt_irrefl q)]at h;rw[hstep _ (by unfold GA;rw[ho])]at h;exact h
     |some p=>
      have h:=pS Dx hcv.out (Ht.out.below hbr (by omega)) Bw.out.1 Bw.out.2 Ed hik hk ho (MM Ut.out ho).1 (by simp);rw[hstep _ (by unfold GA;rw[ho])]at h;exact h)
    clear hstep ho Dx hbr
    go_wp2_with (go_at_call 217;refine acA.out.mono ?_;rintro e w5 ⟨rfl,Yh,zj⟩;have H5:=hid (And.intro Yh zj);clear Yh zj)
    go_roundw
    case rel=>exact⟨q+1,by omega,by go_num,hid H5.out.1,hid (y7.out.trans H5.out.2)⟩
    case measure=>simp[intOf];omega
   ·have Lm:Hid (DZ Q wr W.heap.size gi gn gq i k MS (GA Q cn ct i k)):=hid (by
     have h:=hcv.out;refine⟨h.pi,h.pn,h.pq,h.Od,h.Ox,h.Uq,h.Qo,h.ne,h.Oe,h.Qp,h.Og,λx hx=>?_,h.nmf,h.Ur⟩;have h1:=h.tac x hx;simp only[aq (show x<q by have:=Mt.out;omega)]at h1;exact h1)
    have Fh:Hid (A1 W4 wr [gn,gq]):=hid (y7.out.mono (λx hx=>by simp[mS.1 hx]));clear hcv y7 hbr;have HM5:=hid (jX Ut.out cn ct i k);have HQB:Hid (∀V,A1 W4 V [gn,gq]->Q.In V/\Mr Q V W.heap.size i k cn ct/\W.heap.size<=V.heap.size):=hid λV hv=>by
     have hb:Below W.heap.size W4 V:=hv.below Qs (λx hx=>by
      simp only[bh,jy,qu]at hx
      rcases hx with rfl |rfl <;> assumption)
     exact⟨HQ4.out.below (hb.mono Sv),Ht.out.below hb (by omega),y5 Qs hb.size⟩
    go_wp2
    go_loopg [59] (Fm nN MS) (λg z wr=>∃(nm ta:Nat->Wt),g=Fm nN nm/\Hid (DZ Q wr W.heap.size gi gn gq i k nm ta)/\Hid (A1 W4 wr [gn,gq])/\Hid (Ga Q.T.N (BJ Q.yQ) (FJ Q.hds) Q.row cn ct i k nm ta)/\Hid (FX nm/\FX ta))
    case atStart=>exact⟨MS,GA Q cn ct i k,rfl,Lm,Fh,HM5,hid ⟨uC,pG Q cn ct i k⟩⟩
    case round=>
     clear Lm Fh HM5;obtain⟨nm,ta,rfl,hcv,y7,Ee,hsm⟩:=hrel;obtain⟨Dx,hKr,Ed⟩:=HQB.out wr y7.out;have Tl:wr.heap[pb]?=some (.cells #[ae gn nN nN,ae gq nQ nQ] 351 (0,0)):=(y7.out.block pb aju (by simp;exact⟨ajs,ajt⟩)).trans HF4.out.2.2.2;have p0:wr.cell? (af pb 0)=some (ae gn nN nN):=(A0 Tl).trans rfl;have p1:wr.cell? (af pb 1)=some (ae gq nQ nQ):=(A0 Tl).trans rfl;have HR:=hid (oT Dx Ut.out hcv.out hKr Bw.out.1 Bw.out.2 hsm.out.1 hsm.out.2 Ed hik hk);rw[<-Ec.out,<-Mt.out]at HR;clear Dx hKr Tl
     go_wp2_with (go_at_call 218;refine HR.out.mono ?_;rintro e w5 ⟨low,nm',y9,rfl,Yh,zj,Sx,Jo,ht5⟩;have H5:=hid (And.intro Yh (And.intro zj (And.intro Sx (And.intro Jo ht5))));clear Yh zj Sx Jo ht5;cases low)
     ·go_end0
      obtain⟨Yh,zj,Sx,Jo,ht5⟩:=H5.out;obtain⟨rfl,hf6,hf7⟩:=Jo (by trivial);have Cu:A1 W4 w5 [gn,gq]:=y7.out.trans zj;have ajv:=(Cu.block gi (by omega) yM).trans HF4.out.2.2.1;have Pn:A1 w w5 [gi]:=HF4.out.1.trans' Cu (λx hx=>by
       simp only[bh,jy,qu]at hx
       rcases hx with rfl |rfl <;> exact .inr (by omega))
      refine⟨rfl,_,y9,_,HKR.out.next Pn Yh (by omega) (λj h1 h2=>?_),Sx.sm.1,Sx.sm.2,(Sx.mid Ee.out).done hf6 hf7,Pn,ajv,by simp⟩;exact(Cu.cell (p:=(af gi j)) (by show gi<W4.heap.size;omega) yM).trans (HF4.out.2.1 j h1 h2)
     ·go_roundg (Fm nN nm')
      case measure=>
       exact H5.out.2.2.2.2 (by trivial)
      case rel=>exact⟨nm',y9,rfl,hid H5.out.1,hid (y7.out.trans H5.out.2.1),hid (H5.out.2.2.1.mid Ee.out),hid H5.out.2.2.1.sm⟩
section
theorem Tryz.infoB346:(Tryz.prog.info? 346).map (λi=>(i.zero,i.size,i.bytes))=some (some (.agg #[.bool false,.bool false,ab 0]),3,24):=by kernel_rfl
theorem Tryz.infoX45:(Tryz.prog.info? 45).map (λi=>(i.zero,i.size,i.bytes))=some (some (.slice none 0 0),1,24):=by kernel_rfl
def TC (o:Option Pt):List Value:=[.bool o.isNone,.bool (LX o),ab (M2 o)]
def FN (l:List (Option Pt)):List Value:=l.flatMap TC
theorem VT (a b:List (Option Pt)):FN (a++b)=FN a++FN b:=by unfold FN;rw[mg]
theorem eH (o:Option Pt):FN [o]=TC o:=by unfold FN;simp
def D0 (s:List (Option Pt) × (Nat->List Nat)) (r:Nat × List Pt):List (Option Pt) × (Nat->List Nat):=
 (s.1++r.2.map some++ [none],λm=>if m=r.1 then s.2 m++ [s.1.length]else s.2 m)
structure GS (w:World) (B wb gh:Nat) (c0 c1 c2:Value) (nN:Nat) (vT:Value) (hv:Nat->Value) (yQ:List (Option Pt)) (hds:Nat->List Nat):Prop where
 blk:w.heap[wb]?=some (.cells #[c0,c1,c2,vT,ae gh nN nN,.slice none 0 0] 306 (0,0))
 tl:w.ownsRow B 346 3 vT yQ.length (FN yQ)
 hb:∃cs,w.heap[gh]?=some (.cells cs 45 (0,0))/\cs.size=nN/\∀n,n<nN->cs[n]?=some (hv n)
 hi:∀n,n<nN->D7 w B (hv n) (hds n)
 ap:∀n m,n<nN->m<nN->n≠m->∀g,(hv n).ownBlock=some g->(hv m).ownBlock≠some g
 ghB:B<=gh
 Uw:wb<B
section
variable {w w':World}{B wb gh nN:Nat}{c0 c1 c2 vT:Value}{hv:Nat->Value}{yQ:List (Option Pt)}{hds:Nat->List Nat}
def GS.S (_:GS w B wb gh c0 c1 c2 nN vT hv yQ hds) (k:Nat):Prop:=k=wb\/k=gh\/vT.ownBlock=some k\/∃n,n<nN/\(hv n).ownBlock=some k
theorem GS.keeps {S:List Nat} (h:GS w B wb gh c0 c1 c2 nN vT hv yQ hds) (hk:A1 w w' S) (hS:∀k∈S,¬h.S k):GS w' B wb gh c0 c1 c2 nN vT hv yQ hds where
 blk:=(hk.block wb (ak h.blk) (λhm=>hS _ hm (.inl rfl))).trans h.blk
 tl:=A7 h.tl hk (λg hg hm=>hS _ hm (.inr (.inr (.inl hg))))
 hb:=by
  obtain⟨cs,h1,h2⟩:=h.hb;exact⟨cs,(hk.block gh (ak h1) (λhm=>hS _ hm (.inr (.inl rfl)))).trans h1,h2⟩
 hi:=λn hn=>A7 (h.hi n hn) hk (λg hg hm=>hS _ hm (.inr (.inr (.inr ⟨n,hn,hg⟩))))
 ap:=h.ap
 ghB:=h.ghB
 Uw:=h.Uw
theorem GS.kinds (h:GS w B wb gh c0 c1 c2 nN vT hv yQ hds) {k:Nat} (hk:h.S k):∃c e f,w.heap[k]?=some (.cells c e f):=by
 rcases hk with rfl |rfl |hk | ⟨n,hn,hk⟩
 ·exact⟨_,_,_,h.blk⟩
 ·obtain⟨cs,h1,_⟩:=h.hb;exact⟨_,_,_,h1⟩
 ·obtain⟨c,hc⟩:=BI h.tl hk;exact⟨_,_,_,hc⟩
 ·obtain⟨c,hc⟩:=BI (h.hi n hn) hk;exact⟨_,_,_,hc⟩
theorem GS.step {row:Option Nat} (h:GS w B wb gh c0 c1 c2 nN vT hv yQ hds) (hg:w.grownBy w' row) (hr:∀r,row=some r->∃o:Obj,w.heap[r]?=some o/\o.isCells=false):GS w' B wb gh c0 c1 c2 nN vT hv yQ hds:=by
 refine h.keeps ((A1.refl w row.toList).grown hg (λk e=>.inl Ld)) (λk hk hS=>?_);obtain⟨c,e,f,h1⟩:=h.kinds hS;obtain⟨o,h2,h3⟩:=hr k (by simpa using hk);rw[h1]at h2;injection h2 with h2
 subst h2;cases h3
theorem GS.tail {Wa w1:World}{v':Value}{o:Option Pt} (h:GS w B wb gh c0 c1 c2 nN vT hv yQ hds) (hka:A1 w Wa []) (hgrow:Wa.grownBy w1 vT.ownBlock) (hown:w1.ownsRow B 346 3 v' (yQ.length+1) (FN yQ++TC o)):
  w1.heap[wb]?=some (.cells #[c0,c1,c2,vT,ae gh nN nN,.slice none 0 0] 306 (0,0))/\GS (w1.setCell (af wb 3) v') B wb gh c0 c1 c2 nN v' hv (yQ++ [o]) hds/\A1 w (w1.setCell (af wb 3) v') (wb::vT.ownBlock.toList):=by
 obtain⟨z1,z2,z3,z4⟩:=EN (j:=3) hka h.blk (by decide) h.tl hown hgrow;obtain⟨cs,Av,hg2⟩:=h.hb;have Hl:gh∉wb::vT.ownBlock.toList:=λhm=>by
  rcases bh.1 hm with e |e
  ·have:=h.ghB;have:=h.Uw;omega
  ·exact A5 h.tl Av (by decide) Cp
 refine⟨z1,⟨z2,?_,⟨cs,(z4.block gh (ak Av) Hl).trans Av,hg2⟩,λn hn=>A7 (h.hi n hn) z4 (λg hg hm=>?_),h.ap,h.ghB,h.Uw⟩,z4⟩
 ·rw[lA,ey,VT,eH]
  exact z3
 ·rcases bh.1 hm with e |e
  ·have:=((h.hi n hn).lt g hg).1;have:=h.Uw;omega
  ·exact GG (h.hi n hn) h.tl (by decide) hg Cp
theorem GS.head {Wa w1:World}{v':Value}{n x:Nat} (h:GS w B wb gh c0 c1 c2 nN vT hv yQ hds) (hn:n<nN) (hka:A1 w Wa []) (hgrow:Wa.grownBy w1 (hv n).ownBlock) (hown:w1.ownsRow B 3 1 v' ((hds n).length+1) (D8 (hds n)++ [ab x])) (hfr:BH w.heap.size (hv n) v'):
  (∃cs,w1.heap[gh]?=some (.cells cs 45 (0,0))/\cs[n]?=some (hv n))/\GS (w1.setCell (af gh n) v') B wb gh c0 c1 c2 nN vT (λm=>if m=n then v' else hv m) yQ (λm=>if m=n then hds m++ [x]else hds m)/\A1 w (w1.setCell (af gh n) v') (gh::(hv n).ownBlock.toList):=by
 obtain⟨cs,Av,hg2,hg3⟩:=h.hb;obtain⟨z1,z2,z3,z4⟩:=EN (j:=n) hka Av (by decide) (h.hi n hn) hown hgrow;refine⟨⟨cs,z1,hg3 n hn⟩,⟨(z4.block wb (ak h.blk) (λhm=>?_)).trans h.blk,A7 h.tl z4 (λg hg hm=>?_),⟨_,z2,by simpa using hg2,λm hm=>?_⟩,λm hm=>?_,λm m' hm hm' hne g hg=>?_,h.ghB,h.Uw⟩,z4⟩
 ·rcases bh.1 hm with e |e
  ·have:=h.ghB;have:=h.Uw;omega
  ·have:=((h.hi n hn).lt wb Cp).1;have:=h.Uw;omega
 ·rcases bh.1 hm with e |e
  ·subst e;exact A5 h.tl Av (by decide) hg
  ·exact GG h.tl (h.hi n hn) (by decide) hg Cp
 ·by_cases e:m=n
  ·subst e
   rw[aq rfl,qm,aq rfl,aq (by omega)]
  ·rw[au e,dz (xP e)]
   exact hg3 m hm
 ·by_cases e:m=n
  ·subst e
   simp only[aq];unfold D7;rw[lA,GK];exact z3
  ·simp only[au e]
   refine A7 (h.hi m hm) z4 (λg hg Pc=>?_)
   rcases bh.1 Pc with e2 |e2
   ·subst e2;exact A5 (h.hi m hm) Av (by decide) hg
   ·exact h.ap m n hm hn e g hg (by simpa using e2)
 ·have hlt:∀k,k<nN->∀g,(hv k).ownBlock=some g->g<w.heap.size:=λk hk g hg=>CJ (h.hi k hk) hg
  show(if m'=n then v' else hv m').ownBlock≠some g;have hg:(if m=n then v' else hv m).ownBlock=some g:=hg
  by_cases e:m=n
  ·rw[aq e]at hg
   rw[au (by omega)]
   rcases hfr g hg with h1 |h1
   ·exact h.ap n m' hn hm' (by omega) g h1
   ·intro h2;have:=hlt m' hm' g h2;omega
  ·rw[au e]at hg
   by_cases e2:m'=n
   ·rw[aq e2]
    intro h2
    rcases hfr g h2 with h1 |h1
    ·exact h.ap m n hm hn e g hg h1
    ·have:=hlt m hm g hg;omega
   ·rw[au e2]
    exact h.ap m m' hm hm' hne g hg
end
end
end Go.Proofs.YtjjggdcnpndgjaaGreatDoor
