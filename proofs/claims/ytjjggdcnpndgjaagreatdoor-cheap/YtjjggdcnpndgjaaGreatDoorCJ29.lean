import Derived.Test.YtjjggdcnpndgjaaGreatDoorCJ28
set_option linter.unusedSimpArgs false
set_option maxHeartbeats 8000000
set_option maxRecDepth 100000
namespace Go.Proofs.YtjjggdcnpndgjaaGreatDoor
abbrev sr:=@List.take_add_one
open Go.RowKit Go.Shelf
attribute [local go_sem] Oper.semAt_some
def kF (zK:List (Option Pt)) (q:Nat) (v:Value):Prop:=∃o,zK[q]?=some o/\v=.agg #[.bool o.isNone,.bool (MF o),ab (MC o)]
def RG (W:World) (b wb gn nN gq nQ i k:Nat):Prop:=W.heap[b]?=some (.cells #[ac wb] 270 (0,0))/\W.heap[b+1]?=some (.cells #[ae gn nN nN,ae gq nQ nQ] 351 (0,0))/\W.heap[b+2]?=some (.cells #[ab i] 3 (0,0))/\W.heap[b+3]?=some (.cells #[ab k] 3 (0,0))
theorem RG.keeps {W W':World}{b wb gn nN gq nQ i k:Nat}{S:List Nat} (h:RG W b wb gn nN gq nQ i k) (hk:A5 W W' S) (hS:∀q∈S,q<b):RG W' b wb gn nN gq nQ i k:=
 ⟨(hk.block _ (ak h.1) (λhm=>by have:=hS _ hm;omega)).trans h.1,(hk.block _ (ak h.2.1) (λhm=>by have:=hS _ hm;omega)).trans h.2.1,(hk.block _ (ak h.2.2.1) (λhm=>by have:=hS _ hm;omega)).trans h.2.2.1,(hk.block _ (ak h.2.2.2) (λhm=>by have:=hS _ hm;omega)).trans h.2.2.2⟩
theorem jT {Q:Aq}{W:World}{Bn:Nat} (hQ:Q.In W) (hb:W.cell? (af Bn 0)=some (ae Q.gt Q.zK.length Q.ct)):
  ∃ad cap,W.cell? (af Bn 0)=some (.slice ad Q.zK.length cap)/\Q.zK.length<=cap/\∀i,i<Q.zK.length->∃g off a b m,ad=some (af g off)/\kF Q.zK i (.agg #[a,b,m])/\W.cell? (af g (off+i*3))=some a/\W.cell? (af g (off+i*3+1))=some b/\W.cell? (af g (off+i*3+2))=some m:=by
 refine⟨_,_,hb,hQ.Sx,λi hi=>?_⟩;obtain⟨h0,h1,h2⟩:=hQ.Sv i _ (gE hi);refine⟨Q.gt,0,_,_,_,rfl,⟨_,gE hi,rfl⟩,?_,?_,?_⟩
 ·rw[ju];exact h0
 ·rw[ju];exact h1
 ·rw[ju];exact h2
structure wK (Q:Aq) (i k:Nat) (cn ct:Nat->Nat->Nat->Wt) (nm ta nm' zZ:Nat->Wt):Prop where
 mid:Io Q.T.N (BR Q.zK) (FY Q.hds) Q.row cn ct i k nm ta->Io Q.T.N (BR Q.zK) (FY Q.hds) Q.row cn ct i k nm' zZ
 sm:GE nm'/\GE zZ
theorem mR {Q:Aq}{w:World} (hQ:Q.In w) (Nu:PF Q.zK) {B gi gn gq i k:Nat}{nm ta:Nat->Wt}{cn ct:Nat->Nat->Nat->Wt} (hC:EF Q w B gi gn gq i k nm ta) (hK:Oi Q w B i k cn ct) (Gp:Hu cn) (hct:Hu ct) (hnm:GE nm) (hta:GE ta) (hB:B<=w.heap.size) (hik:i<=k) (hk:k<=Q.row.length):
  Calls Tryz.prog 218 #[ac Q.wb,.agg #[ae gn Q.T.N.nN Q.T.N.nN,ae gq Q.zK.length Q.zK.length],ab i,ab k] w λe w'=>∃(low:Bool) (nm' zZ:Nat->Wt),e=.returned (.bool low)/\EF Q w' B gi gn gq i k nm' zZ/\A5 w w' [gn,gq]/\wK Q i k cn ct nm ta nm' zZ/\
   (low=false->nm'=nm/\IG Q.T.N (BR Q.zK) Q.row cn ct i k nm zZ 0/\∀n q,FY Q.hds n q->Ao (nm n) (named (zZ q)))/\(low=true->Hv Q.T.N.nN nm'<Hv Q.T.N.nN nm):=by
 have c3:w.cell? (af Q.wb 3)=some (ae Q.gt Q.zK.length Q.ct):=(A0 hQ.blk).trans rfl;have c4:w.cell? (af Q.wb 4)=some (ae Q.gh Q.T.N.nN Q.ch):=(A0 hQ.blk).trans rfl;have Vd:=hC.Qg;have Kw:=hC.Sz;have Xo:=hC.Xm;have aai:=hC.Qh;have ac8:=hC.Ta;have Cs:=hQ.At;have hwb:=hQ.Og;have Kh:=hQ.Gi;have Dh:=hQ.Sw;have Qf:=hQ.Sx;have Bi:=hQ.tab.fc.gr.Dm;have HQ:Hid (∀V,Below B w V->Q.In V):=hid λV hb=>hQ.below (hb.mono (by omega))
 have HK:Hid (∀V,Below B w V->Oi Q V B i k cn ct):=hid λV hb=>hK.below hb Vd
 have HC0:=hid hC;have Zf:Hid (GE nm/\GE ta):=hid ⟨hnm,hta⟩;have HS:Hid (∀V (ta1:Nat->Wt) (j q:Nat) (p:Pt),Below B w V->B<=V.heap.size->EF Q V B gi gn gq i k nm ta1->GE ta1->i<=j->j<=k->Q.zK[q]?=some (some p)->Calls Tryz.prog 234 #[ac Q.wb,ab q,ab i,ab j,ab k] V λe w'=>e=.returned (Dt (F3 Q.T.N Q.row cn ct i k nm ta1 p q j))/\Below V.heap.size V w'):=hid λV ta1 j q p hb hBV hc hs h1 h2 hq=>by
  have hKV:=hK.below hb Vd;unfold F3;exact S8 (cn:=AP cn i k nm) (ct:=AP ct i k ta1) (hQ.below (hb.mono (by omega))) (B:=V.heap.size) hq (MZ Nu hq).1 h1 h2 hk (λn e=>x8 hKV hc hBV hk h1 h2) (x5 hKV hc hBV hk h1 h2) (zn _)
   (UF hQ.tab.fc.gr.ok hQ.rl hQ.Gi (Gp.put hnm i k) (hQ.Xl q p hq) i j) (by have:=(hct.put hs i k) (q+1) j k;unfold AJ GH at this;exact⟨by omega,this.2⟩)
 have Xp:=hid Nu;obtain⟨nQ,Fq⟩:=qF (Q.zK.length);obtain⟨nN,zT⟩:=qF (Q.T.N.nN);have Ol:=hid Fq;have Fz:=hid zT;rw[<-Fq]at c3 Dh Qf ⊢;rw[<-zT]at c4 Bi ⊢;clear hQ hC hK Gp hct hnm hta Nu Fq zT;refine(nk (n:=4)).1 ?_;refine qw Tryz.func218 rfl trivial ?_ rfl;simp only[Tryz.ntmps218,jf,lC,jd,Nat.reduceAdd,Nat.reduceSub,jm,jo,jy,jr,ey,iw];have c3':((((w.alloc (.cells #[ac Q.wb] 270)).alloc (.cells #[ae gn nN nN,ae gq nQ nQ] 351)).alloc (.cells #[ab i] 3)).alloc (.cells #[ab k] 3)).cell? (af Q.wb 3)=some (ae Q.gt nQ Q.ct):=A6 _ (A6 _ (A6 _ (A6 _ c3)))
 gi_wp2_with (refine⟨trivial,?_⟩;gi_at_call 235;refine(qU Fence.wide 3 trivial rfl _ _ _ _).mono ?_;rintro e w1 ⟨rfl,rfl⟩)
 obtain⟨W0,hW0⟩:=qE (((((w.alloc (.cells #[ac Q.wb] 270)).alloc (.cells #[ae gn nN nN,ae gq nQ nQ] 351)).alloc (.cells #[ab i] 3)).alloc (.cells #[ab k] 3)).alloc (.cells #[ae Q.gt nQ Q.ct] 303));have hs0:W0.heap.size=w.heap.size+5:=by rw[<-hW0];simp
 have hk0:A5 w W0 []:=by rw[<-hW0];exact(((((A5.refl w []).alloc _).alloc _).alloc _).alloc _).alloc _
 have Ku:RG W0 w.heap.size Q.wb gn nN gq nQ i k/\W0.cell? (af (w.heap.size+4) 0)=some (ae Q.gt nQ Q.ct):=by
  rw[<-hW0];refine⟨⟨?_,?_,?_,?_⟩,?_⟩
  ·exact(dw _ _ _ zG).trans ((dw _ _ _ zG).trans ((dw _ _ _ zG).trans ((dw _ _ _ (by simp)).trans (bg w _))))
  ·refine(dw _ _ _ (by simp)).trans ((dw _ _ _ (by simp)).trans ((dw _ _ _ (by simp)).trans ?_))
   exact PB w _ _ _ _
  ·refine(dw _ _ _ (by simp)).trans ((dw _ _ _ (by simp)).trans ?_)
   have h:=bg ((w.alloc (.cells #[ac Q.wb] 270)).alloc (.cells #[ae gn nN nN,ae gq nQ nQ] 351)) (.cells #[ab i] 3)
   rwa [bh,bh]at h
  ·refine(dw _ _ _ (by simp)).trans ?_
   have h:=bg (((w.alloc (.cells #[ac Q.wb] 270)).alloc (.cells #[ae gn nN nN,ae gq nQ nQ] 351)).alloc (.cells #[ab i] 3)) (.cells #[ab k] 3)
   rwa [bh,bh,bh]at h
  ·have h:=GX ((((w.alloc (.cells #[ac Q.wb] 270)).alloc (.cells #[ae gn nN nN,ae gq nQ nQ] 351)).alloc (.cells #[ab i] 3)).alloc (.cells #[ab k] 3)) (ae Q.gt nQ Q.ct) 303
   rw[bh,bh,bh,bh]at h;exact h
 rw[hW0];clear hW0 c3';obtain⟨hbR,hbS⟩:=Ku;have ag0:Below B w W0:=hk0.below hB (λq h=>by cases h);have ac9:=hid ag0;have Om:Hid (EF Q W0 B gi gn gq i k nm ta):=hid (HC0.out.keeps hk0 hB (λq h=>by cases h));have HBR:=hid hbR;refine wpIn_rangeFunc_ownH (F:=Fence.wide) rfl (by omega) (gf:=245) (lb:= #[ac (w.heap.size+4)]) rfl trivial (rq Tryz.func245 yM rfl)
  (eK 3 (by omega) (w.heap.size+4) nQ (by omega) (kF Q.zK) (FP B (w.heap.size+4)) (λW=>Q.In W/\W.cell? (af (w.heap.size+4) 0)=some (ae Q.gt nQ Q.ct))
   (λA C hQ hK=>⟨hQ.1.below (hK.1.mono (by omega)),(jh hK.2).trans hQ.2⟩) (λW hQ=>by have h:=hQ.2;rw[Ol.out]at h ⊢;exact jT hQ.1 h) W0
   (λW hW=>⟨HQ.out W (ac9.out.trans (hW.mono (by omega))),(hW.cell (by show w.heap.size+4<W0.heap.size;omega)).trans hbS⟩))
  FP.trans (FP.put (by omega) (by omega)) (ah _ _) (λ_=>rfl)
  (fun(pre:List (BX nQ (kF Q.zK))) W=>∃zZ,EF Q W B gi gn gq i k nm zZ/\A5 W0 W [gq]/\wK Q i k cn ct nm ta nm zZ/\(UG nQ (pre.map (·.1.1))->IG Q.T.N (BR Q.zK) Q.row cn ct i k nm zZ (nQ - pre.length)))
  (λ_ _ _=>False) ?own (λ_ _ _ _ _ hs _ _=>hs) ⟨ta,Om.out,A5.refl _ _,⟨λh=>h,Zf.out⟩,λ_ q p ps h1 h2=>by
   exfalso
   rcases SJ Xp.out h2 with⟨h3,_⟩ | ⟨_,_,_,h3⟩
   ·cases h3
   ·have:=(zM.1 h3).1
    have:=Ol.out;simp at h1;omega⟩
  (λy a' W=>∃pb o,Q.zK[y.1.1]?=some o/\W0.heap.size<=pb/\pb<W.heap.size/\W.heap[pb]?=some (.cells #[.bool o.isNone,.bool (MF o),ab (MC o)] 346 (0,0))/\a'= {tmps:= #[ac Q.wb,.agg #[ae gn nN nN,ae gq nQ nQ],ab i,ab k,ac w.heap.size,ac (w.heap.size+1),ac (w.heap.size+2),ac (w.heap.size+3),.bool false,ab (y.1.1:Int),ac pb,undef,undef,undef,undef,ac Q.wb,ac Q.wb,.pointer (some (af Q.wb 3)),ae Q.gt nQ Q.ct,.func (.func 245) #[] #[ac (w.heap.size+4)],ab (y.1.1:Int),y.1.2,undef,undef,undef,undef,undef,undef,undef,undef,undef,undef,undef,undef,undef,undef,undef,undef,undef,undef,undef,undef,undef,undef,undef,undef,undef,undef,undef,undef,undef,undef,undef,undef,undef,undef,undef,undef,undef,undef,undef,undef,undef,undef,undef,undef,undef,undef,undef,undef,undef,undef,undef,undef,undef,undef,undef],defers:=[]})
  ?abY ?assign ?body ?done ?stop
 case own=>
  rintro pre A C row ⟨zZ,h1,h2,h3,h4⟩ hg hr;have hk:A5 A C row.toList:=(A5.refl A row.toList).grown hg (λq e=>.inl Mv);exact⟨zZ,h1.keeps hk (by have:=h2.size;omega) (λq hq=>by have:=(hr q (by simpa using hq)).1;omega),h2.grown hg (λr e=>.inr (hr r e).1),h3,h4⟩
 case abY=>
  rintro y a' _ A C row ⟨pb,o,ho,h1,h2,h3,h4⟩ hg hr;exact⟨pb,o,ho,h1,lL h2 hg.size,G5 h3 hg (λr e=>(hr r e).2),h4⟩
 case assign=>
  rintro l pre ⟨⟨q,Eo⟩,hi1,hi2⟩ W K ⟨zZ,h1,h2,h3,h4⟩ hK;simp only at hi1 hi2;obtain⟨o,ho,rfl⟩:=hi2;have hsz:=h2.size;have zW:A5 W (W.alloc (.cells #[.bool o.isNone,.bool (MF o),ab (MC o)] 346)) []:=(A5.refl W []).alloc _;simp only[O6]
  gi_wp2
  exact hK _ _ ((KeepsOthers.alloc _ _).from _) (FP.keeps zW (by omega) (by omega) (λq h=>by cases h)) ⟨zZ,h1.keeps zW (by omega) (λq h=>by cases h),h2.alloc _,h3,h4⟩ ⟨W.heap.size,o,ho,by omega,by rw[bh];omega,bg W _,rfl⟩
 case body=>
  rintro l pre ⟨⟨q,Eo⟩,hi1,hi2⟩ a' W hl ⟨r,hr⟩ ⟨zZ,h1,h2,h3,h4⟩ ⟨pb,o,ho,Dn,Km,Fw,rfl⟩ hlt;simp only at hi1 hi2 ho Fw ⊢;have hsz:=h2.size;have hBW:B<=W.heap.size:=by omega
  have hbW:Below B w W:=ac9.out.trans (h2.below (by omega) (λq hq=>by rw[mS.1 hq];exact Kw));have aaj:RG W w.heap.size Q.wb gn nN gq nQ i k:=HBR.out.keeps h2 (λq hq=>by rw[mS.1 hq];omega);have Ve:W.cell? (af pb 0)=some (.bool o.isNone):=(A0 Fw).trans rfl;have ag1:=hid h4;have H3:=hid h3;have hqL:q<Q.zK.length:=by rw[<-Ol.out];exact hi1
  have Qj:=hid hqL;have hqi:((q:Int)< (nQ:Int)):=by omega
  have Om:=hid h1;have Bt:=hid h2;have aaO:=hid hbW;have adf:=hid aaj;cases o with
  |none=>
   have Ve:W.cell? (af pb 0)=some (.bool true):=Ve;clear h1 h2 h3 h4 hbW aaj Fw
   gi_wp2
   refine⟨KeepsFrom.refl _ _,⟨ah _ _,rfl⟩,zZ,Om.out,Bt.out,H3.out,λhh=>?_⟩;rw[fq]at hh;obtain⟨h5,h6⟩:=hh.snoc;rw[lM]at h6;have h6:pre.length+q+1=nQ:=h6;have h7:=ag1.out h5;rw[lA,fu];rw[show nQ - pre.length=q+1 by omega]at h7;rw[show nQ - (pre.length+1)=q by omega];exact h7.skip (λp ps e=>by rw[gU ho]at e;cases e)
  |some p=>
   have Ve:W.cell? (af pb 0)=some (.bool false):=Ve;have ag2:=hid Om.out;have ag3:=hid Bt.out;have ag4:Hid (GE zZ):=hid H3.out.sm.2;clear h1 h2 h3 h4 hbW aaj Fw
   gi_wp2
   have cB1:W.cell? (af w.heap.size 0)=some (ac Q.wb):=(A0 adf.out.1).trans rfl;have cP1:W.cell? (af (w.heap.size+1) 1)=some (ae gq nQ nQ):=(A0 adf.out.2.1).trans rfl;have cI1:W.cell? (af (w.heap.size+2) 0)=some (ab i):=(A0 adf.out.2.2.1).trans rfl;have cK1:W.cell? (af (w.heap.size+3) 0)=some (ab k):=(A0 adf.out.2.2.2).trans rfl;have ag5:=hid (HS.out W.drew zZ i q p (aaO.out.drew) (by show B<=W.heap.size;have:=aaO.out.size;omega) (ag2.out.keeps (A5.refl W []).drew adU (λq h=>by cases h)) ag4.out (zn _) hik ho);obtain⟨Y1,hY1⟩:=qE (F3 Q.T.N Q.row cn ct i k nm zZ p q i);rw[hY1]at ag5;have Xj:=hid hY1;clear hY1;have al2:W0.heap.size<=W.heap.size:=ag3.out.size;refine GL (S:=λw'=>w'.cell? (af w.heap.size 0)=some (ac Q.wb)/\w'.cell? (af (w.heap.size+1) 1)=some (ae gq nQ nQ)/\w'.cell? (af (w.heap.size+2) 0)=some (ab i)/\w'.cell? (af (w.heap.size+3) 0)=some (ab k)) hmx yM Lv ⟨cB1,cP1,cI1,cK1⟩ (λhH=>?_)
   refine tB 0 hH ?_;refine tB 1 hH ?_;refine tB 2 hH ?_;refine tB 3 hH ?_;refine tB 4 hH ?_;refine tB 5 hH ?_;refine tB 6 hH ?_;refine tB 7 hH ?_;refine tB 8 hH ?_;refine tL ?_;refine tS 9 λK hK=>?_
   refine tM ?_;rw[ay (by rfl)];go_simp;refine ag5.out.mono ?_;rintro e v1 ⟨rfl,zU⟩;refine hK.out _ _ ?_ λhH=>?_
   ·exact⟨(zU.cell adO).trans hH.1,(zU.cell (by show w.heap.size+1<W.heap.size;omega)).trans hH.2.1,(zU.cell (by show w.heap.size+2<W.heap.size;omega)).trans hH.2.2.1,(zU.cell (by show w.heap.size+3<W.heap.size;omega)).trans hH.2.2.2⟩
   clear hK K;refine tL ?_;have adg:Below W.heap.size W v1:=(ah _ W).drew.trans zU;have al3:W.heap.size<=v1.heap.size:=adg.size;have ajH:=hid (ag2.out.keeps (A5.zQ adg []) adU (λq h=>by cases h));have ajI:=hid adg;clear zU adg;refine tS 10 λK hK=>?_
   refine tM ?_;rw[ay (by rfl)];go_simp;refine(TX ajH.out adU Qj.out Y1).mono ?_;rintro e w8 ⟨rfl,Xq,Di⟩;refine hK.out _ _ ?_ λhH=>?_
   ·exact⟨(Di.cell (by show w.heap.size<v1.heap.size;omega) zG).trans hH.1,(Di.cell (by show w.heap.size+1<v1.heap.size;omega) zG).trans hH.2.1,(Di.cell (by show w.heap.size+2<v1.heap.size;omega) zG).trans hH.2.2.1,(Di.cell (by show w.heap.size+3<v1.heap.size;omega) zG).trans hH.2.2.2⟩
   clear hK K;refine tL ?_;refine bq yM ?_ _;clear hH;have Hs:Hid (A5 W w8 [gq]):=hid ((A5.zQ ajI.out _).trans Di);have ajJ:=hid Xq;clear Xq Di cB1 cP1 cI1 cK1;have ag6:=hid ajJ.out;have aeM:Hid (A5 W0 w8 [gq]):=hid (ag3.out.trans Hs.out);have adW:Hid (Below B w w8):=hid (ac9.out.trans (aeM.out.below (by omega) (λq hq=>by rw[mS.1 hq];exact Kw)));have adi:Hid (RG w8 w.heap.size Q.wb gn nN gq nQ i k):=hid (HBR.out.keeps aeM.out (λq hq=>by rw[mS.1 hq];omega));have ag7:Hid (GE (BA zZ q (BS (zZ q) Y1))):=hid (ag4.out.set q (by rw[<-Xj.out];exact O0 _ _))
   gi_wp2
   have cB2:w8.cell? (af w.heap.size 0)=some (ac Q.wb):=(A0 adi.out.1).trans rfl;have cP2:w8.cell? (af (w.heap.size+1) 1)=some (ae gq nQ nQ):=(A0 adi.out.2.1).trans rfl;have cI2:w8.cell? (af (w.heap.size+2) 0)=some (ab i):=(A0 adi.out.2.2.1).trans rfl;have cK2:w8.cell? (af (w.heap.size+3) 0)=some (ab k):=(A0 adi.out.2.2.2).trans rfl;have ag8:=hid (HS.out w8.drew (BA zZ q (BS (zZ q) Y1)) k q p (adW.out.drew) (by show B<=w8.heap.size;have:=adW.out.size;omega) (ag6.out.keeps (A5.refl w8 []).drew adV (λq h=>by cases h)) ag7.out hik (zn _) ho);obtain⟨Y2,hY2⟩:=qE (F3 Q.T.N Q.row cn ct i k nm (BA zZ q (BS (zZ q) Y1)) p q k);rw[hY2]at ag8;have HY2:=hid hY2;clear hY2;have al4:W0.heap.size<=w8.heap.size:=aeM.out.size;refine GL (S:=λw'=>w'.cell? (af w.heap.size 0)=some (ac Q.wb)/\w'.cell? (af (w.heap.size+1) 1)=some (ae gq nQ nQ)/\w'.cell? (af (w.heap.size+2) 0)=some (ab i)/\w'.cell? (af (w.heap.size+3) 0)=some (ab k)) hmx yM Lv ⟨cB2,cP2,cI2,cK2⟩ (λhH=>?_)
   refine tB 0 hH ?_;refine tB 1 hH ?_;refine tB 2 hH ?_;refine tB 3 hH ?_;refine tB 4 hH ?_;refine tB 5 hH ?_;refine tB 6 hH ?_;refine tB 7 hH ?_;refine tB 8 hH ?_;refine tL ?_;refine tS 9 λK hK=>?_
   refine tM ?_;rw[ay (by rfl)];go_simp;refine ag8.out.mono ?_;rintro e v2 ⟨rfl,zU⟩;refine hK.out _ _ ?_ λhH=>?_
   ·exact⟨(zU.cell (by show w.heap.size<w8.heap.size;omega)).trans hH.1,(zU.cell (by show w.heap.size+1<w8.heap.size;omega)).trans hH.2.1,(zU.cell (by show w.heap.size+2<w8.heap.size;omega)).trans hH.2.2.1,(zU.cell (by show w.heap.size+3<w8.heap.size;omega)).trans hH.2.2.2⟩
   clear hK K;refine tL ?_;have adj:Below w8.heap.size w8 v2:=(ah _ w8).drew.trans zU;have al5:w8.heap.size<=v2.heap.size:=adj.size;have ajK:=hid (ag6.out.keeps (A5.zQ adj []) adV (λq h=>by cases h));have ajL:=hid adj;clear zU adj;refine tS 10 λK hK=>?_
   refine tM ?_;rw[ay (by rfl)];go_simp;refine(TX ajK.out adV Qj.out Y2).mono ?_;rintro e w9 ⟨rfl,Xq,Di⟩;refine hK.out _ _ ?_ λhH=>?_
   ·exact⟨(Di.cell (by show w.heap.size<v2.heap.size;omega) zG).trans hH.1,(Di.cell (by show w.heap.size+1<v2.heap.size;omega) zG).trans hH.2.1,(Di.cell (by show w.heap.size+2<v2.heap.size;omega) zG).trans hH.2.2.1,(Di.cell (by show w.heap.size+3<v2.heap.size;omega) zG).trans hH.2.2.2⟩
   clear hK K;refine tL ?_;refine bq yM ?_ _;clear hH;have Ci:Hid (A5 w8 w9 [gq]):=hid ((A5.zQ ajL.out _).trans Di);have ajM:=hid Xq;clear Xq Di cB2 cP2 cI2 cK2;have hE:BA (BA zZ q (BS (zZ q) Y1)) q (BS (BA zZ q (BS (zZ q) Y1) q) Y2)=BA (BA zZ q (BS (zZ q) Y1)) q (BS (BS (zZ q) Y1) Y2):=by rw[N0]
   have ajN:Hid (EF Q w9 B gi gn gq i k nm (BA (BA zZ q (BS (zZ q) Y1)) q (BS (BS (zZ q) Y1) Y2))):=hid (by rw[<-hE];exact ajM.out);clear hE
   gi_wp2
   obtain⟨Kb,ps,al6,aeN⟩:=MZ Xp.out ho;have hEq:BA (BA zZ q (BS (zZ q) Y1)) q (BS (BS (zZ q) Y1) Y2)=BA zZ q (BS (BS (zZ q) Y1) Y2):=aM _ _ _ _;have hK9:A5 W w9 [gq]:=Hs.out.trans Ci.out;refine⟨KeepsFrom.Mg hK9 (λq hq=>by rw[mS.1 hq];omega),FP.keeps hK9 hBW (by omega) (λq hq=>by rw[mS.1 hq];exact⟨Kw,by omega⟩),_,ajN.out,Bt.out.trans hK9,⟨λhm=>?_,Zf.out.1,?_⟩,λhh=>?_⟩
   ·have m1:=(H3.out.mid hm).tail aeN (zn i) hik
    rw[Xj.out]at m1;have m2:=m1.tail aeN hik (zn k);rw[HY2.out,N0]at m2;exact m2
   ·have:=ag7.out.set q (b:=Y2) (by rw[<-HY2.out];exact O0 _ _)
    rw[N0]at this;exact this
   ·rw[fq]at hh
    obtain⟨h5,h6⟩:=hh.snoc;rw[lM]at h6;have h6:pre.length+q+1=nQ:=h6;have h7:=ag1.out h5;rw[lA,fu];rw[show nQ - pre.length=q+1 by omega]at h7;rw[show nQ - (pre.length+1)=q by omega];refine h7.step aeN (λm hm=>?_) ?_
    ·unfold BA;rw[aq hm,aq hm]
    ·rw[N0,Xj.out]
     congr 1
     rw[<-HY2.out];exact MD (by unfold BA;rw[aq (by omega)])
 case done=>
  rintro D ys W hD hys ⟨zZ,h1,h2,h3,h4⟩ hKD;have ag9:IG Q.T.N (BR Q.zK) Q.row cn ct i k nm zZ 0:=by
   have hl:=congrArg List.length hys;simp at hl;have h5:=h4 ⟨0,by rw[hys];simp⟩;rw[hl,ku]at h5;exact h5
  have hsz:=h2.size;have hBW:B<=W.heap.size:=by omega
  have hbW:Below B w W:=ac9.out.trans (h2.below (by omega) (λq hq=>by rw[mS.1 hq];exact Kw));have aaj:RG W w.heap.size Q.wb gn nN gq nQ i k:=HBR.out.keeps h2 (λq hq=>by rw[mS.1 hq];omega);have Im:=HQ.out W hbW;have c4W:W.cell? (af Q.wb 4)=some (ae Q.gh nN Q.ch):=(hbW.cell (by show Q.wb<B;omega)).trans c4;have cBW:W.cell? (af w.heap.size 0)=some (ac Q.wb):=(A0 aaj.1).trans rfl;have HE:=hid ag9;have H3:=hid h3;have HC:=hid h1;have Wz:Hid (A5 w W [gq]):=hid ((hk0.mono (λq h=>by cases h)).trans h2);have ajO:=hid aaj;have HbW:=hid hbW;have aeO:Q.gh<Q.gp:=Im.ghl;have hhl:Q.hds.length=nN:=by rw[Fz.out];exact Im.hl
  have HHd:Hid (∀(n:Nat) (l:List Nat),Q.hds[n]?=some l->(∃v,W.cell? (af Q.gh n)=some v/\Em W Q.gp v l)/\l.length<=60/\∀q∈l,q<Q.zK.length):=hid λn l hl=>⟨Im.hdc n l hl,Im.Lc n l hl⟩
  have hch:nN<=Q.ch:=by rw[Fz.out];exact Im.chl
  have hDW:D<W.heap.size:=(ng.1 hKD).1;have HKD:=hid hKD;clear h1 h2 h3 h4 ag9 hys hbW aaj Im hKD hk0 ag0 hbR
  gi_wp2
  gi_loopw [8,52] (λlv z wr=>∃(low:Bool) (n:Nat) (nm':Nat->Wt),n<=nN/\lv=.bool low/\z=ab n/\Hid (EF Q wr B gi gn gq i k nm' zZ)/\Hid (A5 W wr [gn])/\Hid ((Io Q.T.N (BR Q.zK) (FY Q.hds) Q.row cn ct i k nm zZ->Io Q.T.N (BR Q.zK) (FY Q.hds) Q.row cn ct i k nm' zZ)/\GE nm')/\Hid ((low=false->nm'=nm/\∀n' q,n'<n->FY Q.hds n' q->Ao (nm n') (named (zZ q)))/\(low=true->Hv nN nm'<Hv nN nm))) (λ_ z _=>nN - (intOf z).toNat)
  case atStart=>exact⟨false,0,nm,dh _,rfl,rfl,HC,hid (A5.refl _ _),hid ⟨λh=>h,Zf.out.1⟩,hid ⟨λ_=>⟨rfl,λn' q h _=>by omega⟩,λh=>by cases h⟩⟩
  case round=>
   obtain⟨low,n,nm',hn,rfl,rfl,hcv,zW,Gb,Bz⟩:=hrel
   by_cases hlt:n<nN
   ·obtain⟨l,hl⟩:∃l,Q.hds[n]?=some l:=⟨_,gE (by rw[hhl];exact hlt)⟩
    obtain⟨⟨v,cv,Cn⟩,aeP,My⟩:=HHd.out n l hl;obtain⟨adh,ajP,rfl,ajQ,hhc⟩:=Cn;have cvr:wr.cell? (af Q.gh n)=some (.slice adh l.length ajP):=(zW.out.cell (by show Q.gh<W.heap.size;omega) zG).trans cv;obtain⟨nl,Ej⟩:=qE (l.length);rw[Ej]at cvr ajQ hhc aeP;have HL:Hid (l.length=nl/\Q.hds[n]?=some l/\∀q∈l,q<Q.zK.length):=hid ⟨Ej,hl,My⟩;have HHc:=hid hhc;clear cv Ej hl My hhc
    gi_wp2
    gi_loopw [8,59] (λlv z wn=>∃(low:Bool) (h:Nat) (nm':Nat->Wt),h<=nl/\lv=.bool low/\z=ab h/\Hid (EF Q wn B gi gn gq i k nm' zZ)/\Hid (A5 W wn [gn])/\Hid ((Io Q.T.N (BR Q.zK) (FY Q.hds) Q.row cn ct i k nm zZ->Io Q.T.N (BR Q.zK) (FY Q.hds) Q.row cn ct i k nm' zZ)/\GE nm')/\Hid ((low=false->nm'=nm/\(∀n' q,n'<n->FY Q.hds n' q->Ao (nm n') (named (zZ q)))/\∀q∈l.take h,Ao (nm n) (named (zZ q)))/\(low=true->Hv nN nm'<Hv nN nm))) (λ_ z _=>nl - (intOf z).toNat)
    case atStart=>exact⟨low,0,nm',dh _,rfl,rfl,hcv,zW,Gb,hid ⟨λh=>⟨(Bz.out.1 h).1,(Bz.out.1 h).2,λq hq=>by simp at hq⟩,Bz.out.2⟩⟩
    case round=>
     clear hcv zW Gb Bz cvr;obtain⟨low,h,nm',hh,rfl,rfl,hcv,zW,Gb,Bz⟩:=hrel
     by_cases hlh:h<nl
     ·obtain⟨q,hq⟩:∃q,l[h]?=some q:=⟨_,gE (by rw[HL.out.1];exact hlh)⟩
      have hqm:q∈l:=mG hq;have aah:q<nQ:=by rw[Ol.out];exact HL.out.2.2 q hqm
      obtain⟨g,off,rfl,Bu,Er⟩:=HHc.out (by omega);have cq:wr.cell? (af g (off+h))=some (ab q):=(zW.out.cell (by show g<W.heap.size;omega) zG).trans (Er h q hq);have Wh:=zW.out.size;have Ga:B<=wr.heap.size:=by omega
      have aeQ:RG wr w.heap.size Q.wb gn nN gq nQ i k:=ajO.out.keeps zW.out (λq hq=>by rw[mS.1 hq];omega);have cP0:wr.cell? (af (w.heap.size+1) 0)=some (ae gn nN nN):=(A0 aeQ.2.1).trans rfl;have cP1:wr.cell? (af (w.heap.size+1) 1)=some (ae gq nQ nQ):=(A0 aeQ.2.1).trans rfl;obtain⟨Zx,Zy⟩:=hcv.out.tac q (HL.out.2.2 q hqm);have aa5:=H3.out.sm.2 q;unfold AJ GH at aa5;obtain⟨t1,Gq⟩:=qE ((zZ q).1);obtain⟨t2,Jc⟩:=qE ((zZ q).2);rw[Gq]at Zx aa5;rw[Jc]at Zy aa5;obtain⟨al7,aa5⟩:=aa5;have Mf:Hid (∀V,Calls Tryz.prog 222 #[.agg #[ab t1,ab t2]] V λe w'=>e=.returned (Dt (named (t1,t2)))/\Below V.heap.size V w'):=hid λV=>WO t1 t2 (by omega) aa5 V
      obtain⟨Y,hY⟩:=qE (named (t1,t2));have HY:Hid (named (zZ q)=Y):=hid (by rw[<-hY,<-Gq,<-Jc]);rw[hY]at Mf;have HQM:Hid (FY Q.hds n q/\l[h]?=some q):=hid ⟨⟨l,HL.out.2.1,hqm⟩,hq⟩;have hqi:((q:Int)< (nQ:Int)):=by omega
      have hni:((n:Int)< (nN:Int)):=by omega
      have HhN:Hid (n<Q.T.N.nN):=hid (by rw[<-Fz.out];exact hlt);clear aeQ hq hqm Er Gq Jc hY
      gi_wp2
      refine KQ ((xz (n:=4)).2 ?_);refine dy (S:=λw'=>w'.cell? (af (w.heap.size+1) 0)=some (ae gn nN nN)/\w'.cell? (af (w.heap.size+1) 1)=some (ae gq nQ nQ)/\w'.cell? (af gq (q*2))=some (ab t1)/\w'.cell? (af gq (q*2+1))=some (ab t2)) yM ⟨cP0,cP1,Zx,Zy⟩ (λhH=>?_);refine tB 0 hH ?_;refine tB 1 hH ?_;refine tB 2 hH ?_;refine tB 3 hH ?_;refine tB 4 hH ?_;refine tB 5 hH ?_;refine tB 6 hH ?_;refine tB 7 hH ?_;refine tB 8 hH ?_;refine tL ?_;refine tS 9 λK hK=>?_
      refine tM ?_
      go_simp;refine(Mf.out _).mono ?_;rintro e w6 ⟨rfl,zU⟩;try dsimp only
      refine hK.out _ _ ?_ λhH=>?_
      ·exact⟨(zU.cell (by show w.heap.size+1<wr.heap.size;omega)).trans hH.1,(zU.cell (by show w.heap.size+1<wr.heap.size;omega)).trans hH.2.1,(zU.cell (by show gq<wr.heap.size;omega)).trans hH.2.2.1,(zU.cell (by show gq<wr.heap.size;omega)).trans hH.2.2.2⟩
      clear hK K;refine tL ?_;have adk:Below wr.heap.size wr w6:=(ah _ wr).drew.trans zU;have Wy:=adk.size;have HC6:=hid (hcv.out.keeps (A5.zQ adk []) Ga (λq h=>by cases h));have Es:=hid adk;have hne:gq≠gn:=yB hcv.out.ne;clear zU adk;refine tS 10 λK hK=>?_
      refine tM ?_
      go_simp;refine(sU HC6.out (by omega) HhN.out Y).mono ?_;rintro e w7 ⟨rfl,Xq,Di⟩;try dsimp only
      refine hK.out _ _ ?_ λhH=>?_
      ·exact⟨(Di.cell (by show w.heap.size+1<w6.heap.size;omega) zG).trans hH.1,(Di.cell (by show w.heap.size+1<w6.heap.size;omega) zG).trans hH.2.1,(Di.cell (by show gq<w6.heap.size;omega) abh).trans hH.2.2.1,(Di.cell (by show gq<w6.heap.size;omega) abh).trans hH.2.2.2⟩
      clear hK K;refine tL ?_;refine bq yM ?_ _;have HC7:=hid Xq;have HK7:Hid (A5 W w7 [gn]):=hid ((zW.out.trans (A5.zQ Es.out _)).trans Di);have hyh:Y.2<=GH:=by rw[<-HY.out];exact O0 _ _
      have aeR:Hid (GE (BA nm' n (BS (nm' n) Y))):=hid (Gb.out.2.set n hyh);have aeS:Hid (Io Q.T.N (BR Q.zK) (FY Q.hds) Q.row cn ct i k nm zZ->Io Q.T.N (BR Q.zK) (FY Q.hds) Q.row cn ct i k (BA nm' n (BS (nm' n) Y)) zZ):=hid λhm=>by
       have:=(Gb.out.1 hm).name HQM.out.1;rw[HY.out]at this;exact this
      have hmu:At Y (nm' n)->Hv nN (BA nm' n (BS (nm' n) Y))<Hv nN nm':=λhw=>vK hlt hyh hw
      have aeT:Hv nN nm'<=Hv nN nm:=by
       cases low with
       |false=>rw[(Bz.out.1 rfl).1];exact zn _
       |true=>exact qp (Bz.out.2 rfl)
      clear hH Xq Di cP0 cP1 Zx Zy;refine FH (Q:=λ_ _ _=>False) ?_;obtain⟨bw,zX⟩:=qE (decide (At Y (nm' n)));rw[zX];cases bw
      case true=>
       have hw:At Y (nm' n):=kg zX;clear zX;have HMu:=hid (lL (hmu hw) aeT);clear hw hmu aeT hyh
       gi_wp2
       go_roundw
       case rel=>exact⟨true,h+1,_,by omega,rfl,by go_num,HC7,HK7,hid ⟨aeS.out,aeR.out⟩,hid ⟨λh=>(by cases h),λ_=>HMu.out⟩⟩
       case measure=>simp[intOf];omega
      case false=>
       have hw:¬At Y (nm' n):=of_decide_eq_false zX;clear zX;have hsame:BA nm' n (BS (nm' n) Y)=nm':=by rw[LR,aq hw];funext m;unfold BA;split <;> simp_all
       have HLe:Hid (Ao (nm' n) Y):=hid (gB hw);rw[hsame]at HC7 aeR aeS;clear hw hmu aeT hyh hsame
       gi_wp2
       go_roundw
       case rel=>exact⟨low,h+1,nm',by omega,rfl,by go_num,HC7,HK7,hid ⟨aeS.out,aeR.out⟩,hid ⟨λhf=>⟨(Bz.out.1 hf).1,(Bz.out.1 hf).2.1,λx hx=>by
        rw[sr,HQM.out.2]at hx
        rcases ig.1 hx with hx |hx
        ·exact(Bz.out.1 hf).2.2 x hx
        ·have:x=q:=by simpa using hx
         subst this;rw[HY.out,<-(Bz.out.1 hf).1];exact HLe.out⟩,Bz.out.2⟩⟩
       case measure=>simp[intOf];omega
     ·have HH:Hid (h=nl):=hid (by omega)
      gi_wp2
      go_roundw
      case rel=>exact⟨low,n+1,nm',by omega,rfl,by go_num,hcv,zW,Gb,hid ⟨λhf=>⟨(Bz.out.1 hf).1,λn' q hn' hq=>by
       rcases jz n' n with h5 |h5
       ·exact(Bz.out.1 hf).2.1 n' q h5 hq
       ·obtain rfl:n'=n:=by omega
        obtain⟨l',hl',Dg⟩:=hq;rw[HL.out.2.1]at hl';injection hl' with hl'
        subst hl';exact(Bz.out.1 hf).2.2 q (by rw[HH.out,<-HL.out.1,om];exact Dg)⟩,Bz.out.2⟩⟩
      case measure=>simp[intOf];omega
   ·have HNn:Hid (n=nN):=hid (by omega)
    have hDr:wr.heap[D]?=some (.deferred (some [])):=(zW.out.block D hDW zG).trans HKD.out;have HDr:=hid hDr;have Wh:=zW.out.size;clear hDr
    gi_wp2
    refine⟨by simp,.inl ⟨_,_,rfl,uz HDr.out,?_⟩⟩;have hkp:A5 wr (wr.putObj D (.deferred none)) [D]:=(A5.refl wr [D]).grown (qo _ D (.deferred none)) (λk e=>by cases e;exact .inl (by simp));refine⟨_,zm rfl _ _ _,low,nm',zZ,rfl,hcv.out.keeps hkp (by omega) (λq h=>by have:=mS.1 h;omega),((Wz.out.mono (λq hq=>by simp[mS.1 hq])).trans (zW.out.mono (λq hq=>by simp[mS.1 hq]))).grown (qo _ D (.deferred none)) (λk e=>by cases e;exact .inr (by omega)),⟨λhm=>Gb.out.1 (H3.out.mid hm),Gb.out.2,H3.out.sm.2⟩,λhf=>⟨(Bz.out.1 hf).1,HE.out,λn' q hq=>(Bz.out.1 hf).2 n' q (by obtain⟨l',hl',_⟩:=hq;rw[HNn.out,<-hhl];exact(zM.1 hl').1) hq⟩,Bz.out.2⟩
 case stop=>
  rintro D c pre W _ _ h _;exact h.elim
end Go.Proofs.YtjjggdcnpndgjaaGreatDoor
