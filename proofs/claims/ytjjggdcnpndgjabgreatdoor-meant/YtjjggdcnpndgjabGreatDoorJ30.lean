import Derived.Test.YtjjggdcnpndgjabGreatDoorJ29
set_option linter.unusedSimpArgs false
set_option maxHeartbeats 8000000
set_option maxRecDepth 100000
namespace Go.Proofs.YtjjggdcnpndgjabGreatDoor
open Go.RowKit Go.Shelf
attribute [local go_sem] Oper.semAt_some
def jB (tls:List (Option Pt)) (q:Nat) (v:Value):Prop:=∃o,tls[q]?=some o/\v=.agg #[.bool o.isNone,.bool (M4 o),ab (M3 o)]
def RG (W:World) (b wb gn nN gq nQ i k:Nat):Prop:=W.heap[b]?=some (.cells #[ac wb] 130 (0,0))/\W.heap[b+1]?=some (.cells #[ae gn nN nN,ae gq nQ nQ] 210 (0,0))/\W.heap[b+2]?=some (.cells #[ab i] 3 (0,0))/\W.heap[b+3]?=some (.cells #[ab k] 3 (0,0))
theorem RG.keeps {W W':World}{b wb gn nN gq nQ i k:Nat}{S:List Nat} (h:RG W b wb gn nN gq nQ i k) (hk:A1 W W' S) (hS:∀q∈S,q<b):RG W' b wb gn nN gq nQ i k:=
 ⟨(hk.block _ (lt_of_block h.1) (fun hm=>by have:=hS _ hm;omega)).trans h.1,(hk.block _ (lt_of_block h.2.1) (fun hm=>by have:=hS _ hm;omega)).trans h.2.1,(hk.block _ (lt_of_block h.2.2.1) (fun hm=>by have:=hS _ hm;omega)).trans h.2.2.1,(hk.block _ (lt_of_block h.2.2.2) (fun hm=>by have:=hS _ hm;omega)).trans h.2.2.2⟩
theorem jM {Q:Wts}{W:World}{Bn:Nat} (hQ:Q.In W) (hb:W.cell? (af Bn 0)=some (ae Q.gt Q.tls.length Q.ct)):
  ∃ad cap,W.cell? (af Bn 0)=some (.slice ad Q.tls.length cap)/\Q.tls.length<=cap/\∀i,i<Q.tls.length->∃g off a b m,ad=some (af g off)/\jB Q.tls i (.agg #[a,b,m])/\W.cell? (af g (off+i*3))=some a/\W.cell? (af g (off+i*3+1))=some b/\W.cell? (af g (off+i*3+2))=some m:=by
 refine⟨_,_,hb,hQ.tlc2,fun i hi=>?_⟩;obtain⟨h0,h1,h2⟩:=hQ.tlc i _ (gE hi);refine⟨Q.gt,0,_,_,_,rfl,⟨_,gE hi,rfl⟩,?_,?_,?_⟩
 ·rw[Nat.zero_add];exact h0
 ·rw[Nat.zero_add];exact h1
 ·rw[Nat.zero_add];exact h2
structure wK (Q:Wts) (i k:Nat) (cn ct:Nat->Nat->Nat->Wt) (nm ta nm' ta':Nat->Wt):Prop where
 mid:Mid Q.T.N (BK Q.tls) (FI Q.hds) Q.row cn ct i k nm ta->Mid Q.T.N (BK Q.tls) (FI Q.hds) Q.row cn ct i k nm' ta'
 sm:FX nm'/\FX ta'
theorem oR {Q:Wts}{w:World} (hQ:Q.In w) (hTl:PH Q.tls) {B gi gn gq i k:Nat}{nm ta:Nat->Wt}{cn ct:Nat->Nat->Nat->Wt} (hC:E5 Q w B gi gn gq i k nm ta) (hK:KnP Q w B i k cn ct) (hcn:WSm cn) (hct:WSm ct) (hnm:FX nm) (hta:FX ta) (hB:B<=w.heap.size) (hik:i<=k) (hk:k<=Q.row.length):
  Calls Tryz.prog 108 #[ac Q.wb,.agg #[ae gn Q.T.N.nN Q.T.N.nN,ae gq Q.tls.length Q.tls.length],ab i,ab k] w fun e w'=>∃(low:Bool) (nm' ta':Nat->Wt),e=.returned (.bool low)/\E5 Q w' B gi gn gq i k nm' ta'/\A1 w w' [gn,gq]/\wK Q i k cn ct nm ta nm' ta'/\
   (low=false->nm'=nm/\I6 Q.T.N (BK Q.tls) Q.row cn ct i k nm ta' 0/\∀n q,FI Q.hds n q->wle (nm n) (named (ta' q)))/\(low=true->muN Q.T.N.nN nm'<muN Q.T.N.nN nm):=by
 have c3:w.cell? (af Q.wb 3)=some (ae Q.gt Q.tls.length Q.ct):=(A0 hQ.blk).trans rfl;have c4:w.cell? (af Q.wb 4)=some (ae Q.gh Q.T.N.nN Q.ch):=(A0 hQ.blk).trans rfl;have hgpB:=hC.gpB;have hgqB:=hC.gqB;have hgnB:=hC.gnB;have hgnl:=hC.gnl;have hgql:=hC.gql;have hwl:=hQ.wlt;have hwb:=hQ.wbl;have hr100:=hQ.r40;have htl:=hQ.tl20;have htc:=hQ.tlc2;have hn20:=hQ.tab.fc.gr.leN;have HQ:Hid (∀V,Below B w V->Q.In V):=hid fun V hb=>hQ.below (hb.mono (by omega))
 have HK:Hid (∀V,Below B w V->KnP Q V B i k cn ct):=hid fun V hb=>hK.below hb hgpB
 have HC0:=hid hC;have HSm:Hid (FX nm/\FX ta):=hid ⟨hnm,hta⟩;have HS:Hid (∀V (ta1:Nat->Wt) (j q:Nat) (p:Pt),Below B w V->B<=V.heap.size->E5 Q V B gi gn gq i k nm ta1->FX ta1->i<=j->j<=k->Q.tls[q]?=some (some p)->Calls Tryz.prog 126 #[ac Q.wb,ab q,ab i,ab j,ab k] V fun e w'=>e=.returned (wtV (EQ Q.T.N Q.row cn ct i k nm ta1 p q j))/\Below V.heap.size V w'):=hid fun V ta1 j q p hb hBV hc hs h1 h2 hq=>by
  have hKV:=hK.below hb hgpB;unfold EQ;exact R4 (cn:=AK cn i k nm) (ct:=AK ct i k ta1) (hQ.below (hb.mono (by omega))) (B:=V.heap.size) hq (MR hTl hq).1 h1 h2 hk (fun n e=>uX hKV hc hBV hk h1 h2) (vF hKV hc hBV hk h1 h2) (lR_ _)
   (TJ hQ.tab.fc.gr.ok hQ.rl hQ.r40 (hcn.put hnm i k) (hQ.pto q p hq) i j) (by have:=(hct.put hs i k) (q+1) j k;unfold AB FZ at this;exact⟨by omega,this.2⟩)
 have HTl:=hid hTl;obtain⟨nQ,hnQ⟩:=qF (Q.tls.length);obtain⟨nN,hnN⟩:=qF (Q.T.N.nN);have HNQ:=hid hnQ;have HNN:=hid hnN;rw[<-hnQ]at c3 htl htc ⊢;rw[<-hnN]at c4 hn20 ⊢;clear hQ hC hK hcn hct hnm hta hTl hnQ hnN;refine(callsIn_wide (n:=4)).1 ?_;refine callsIn_of_wp_marks Tryz.func108 rfl trivial ?_ rfl;simp only[Tryz.ntmps108,List.size_toArray,lC,List.length_nil,Nat.reduceAdd,Nat.reduceSub,Array.replicate_succ,Array.replicate_zero,List.push_toArray,List.append_toArray,List.nil_append,List.cons_append];have c3':((((w.alloc (.cells #[ac Q.wb] 130)).alloc (.cells #[ae gn nN nN,ae gq nQ nQ] 210)).alloc (.cells #[ab i] 3)).alloc (.cells #[ab k] 3)).cell? (af Q.wb 3)=some (ae Q.gt nQ Q.ct):=A2 _ (A2 _ (A2 _ (A2 _ c3)))
 gi_wp2_with (refine⟨trivial,?_⟩;gi_at_call 127;refine(pO Fence.wide 3 trivial rfl _ _ _ _).mono ?_;rintro e w1 ⟨rfl,rfl⟩)
 obtain⟨W0,hW0⟩:=qE (((((w.alloc (.cells #[ac Q.wb] 130)).alloc (.cells #[ae gn nN nN,ae gq nQ nQ] 210)).alloc (.cells #[ab i] 3)).alloc (.cells #[ab k] 3)).alloc (.cells #[ae Q.gt nQ Q.ct] 165));have hs0:W0.heap.size=w.heap.size+5:=by rw[<-hW0];simp
 have hk0:A1 w W0 []:=by rw[<-hW0];exact(((((A1.refl w []).alloc _).alloc _).alloc _).alloc _).alloc _
 have hbx:RG W0 w.heap.size Q.wb gn nN gq nQ i k/\W0.cell? (af (w.heap.size+4) 0)=some (ae Q.gt nQ Q.ct):=by
  rw[<-hW0];refine⟨⟨?_,?_,?_,?_⟩,?_⟩
  ·exact(Below.heap_alloc _ _ _ y2Z).trans ((Below.heap_alloc _ _ _ y2Z).trans ((Below.heap_alloc _ _ _ y2Z).trans ((Below.heap_alloc _ _ _ (by simp)).trans (World.alloc_heap_new w _))))
  ·refine(Below.heap_alloc _ _ _ (by simp)).trans ((Below.heap_alloc _ _ _ (by simp)).trans ((Below.heap_alloc _ _ _ (by simp)).trans ?_))
   exact P2 w _ _ _ _
  ·refine(Below.heap_alloc _ _ _ (by simp)).trans ((Below.heap_alloc _ _ _ (by simp)).trans ?_)
   have h:=World.alloc_heap_new ((w.alloc (.cells #[ac Q.wb] 130)).alloc (.cells #[ae gn nN nN,ae gq nQ nQ] 210)) (.cells #[ab i] 3)
   rwa [World.size_alloc,World.size_alloc]at h
  ·refine(Below.heap_alloc _ _ _ (by simp)).trans ?_
   have h:=World.alloc_heap_new (((w.alloc (.cells #[ac Q.wb] 130)).alloc (.cells #[ae gn nN nN,ae gq nQ nQ] 210)).alloc (.cells #[ab i] 3)) (.cells #[ab k] 3)
   rwa [World.size_alloc,World.size_alloc,World.size_alloc]at h
  ·have h:=GJ ((((w.alloc (.cells #[ac Q.wb] 130)).alloc (.cells #[ae gn nN nN,ae gq nQ nQ] 210)).alloc (.cells #[ab i] 3)).alloc (.cells #[ab k] 3)) (ae Q.gt nQ Q.ct) 165
   rw[World.size_alloc,World.size_alloc,World.size_alloc,World.size_alloc]at h;exact h
 rw[hW0];clear hW0 c3';obtain⟨hbR,hbS⟩:=hbx;have hbw0:Below B w W0:=hk0.below hB (fun q h=>by cases h);have HBW0:=hid hbw0;have HC1:Hid (E5 Q W0 B gi gn gq i k nm ta):=hid (HC0.out.keeps hk0 hB (fun q h=>by cases h));have HBR:=hid hbR;refine wpIn_rangeFunc_ownH (F:=Fence.wide) rfl (by omega) (gf:=137) (lb:= #[ac (w.heap.size+4)]) rfl trivial (enters_of Tryz.func137 y1Z rfl)
  (dK 3 (by omega) (w.heap.size+4) nQ (by omega) (jB Q.tls) (FB B (w.heap.size+4)) (fun W=>Q.In W/\W.cell? (af (w.heap.size+4) 0)=some (ae Q.gt nQ Q.ct))
   (fun A C hQ hK=>⟨hQ.1.below (hK.1.mono (by omega)),(World.cell?_of_block hK.2).trans hQ.2⟩) (fun W hQ=>by have h:=hQ.2;rw[HNQ.out]at h ⊢;exact jM hQ.1 h) W0
   (fun W hW=>⟨HQ.out W (HBW0.out.trans (hW.mono (by omega))),(hW.cell (by show w.heap.size+4<W0.heap.size;omega)).trans hbS⟩))
  FB.trans (FB.put (by omega) (by omega)) (Below.refl _ _) (fun _=>rfl)
  (fun(pre:List (BX nQ (jB Q.tls))) W=>∃ta',E5 Q W B gi gn gq i k nm ta'/\A1 W0 W [gq]/\wK Q i k cn ct nm ta nm ta'/\(U2 nQ (pre.map (·.1.1))->I6 Q.T.N (BK Q.tls) Q.row cn ct i k nm ta' (nQ - pre.length)))
  (fun _ _ _=>False) ?own (fun _ _ _ _ _ hs _ _=>hs) ⟨ta,HC1.out,A1.refl _ _,⟨fun h=>h,HSm.out⟩,fun _ q p ps h1 h2=>by
   exfalso
   rcases RW HTl.out h2 with⟨h3,_⟩ | ⟨_,_,_,h3⟩
   ·cases h3
   ·have:=(gS_.1 h3).1
    have:=HNQ.out;simp at h1;omega⟩
  (fun y a' W=>∃pb o,Q.tls[y.1.1]?=some o/\W0.heap.size<=pb/\pb<W.heap.size/\W.heap[pb]?=some (.cells #[.bool o.isNone,.bool (M4 o),ab (M3 o)] 205 (0,0))/\a'= {tmps:= #[ac Q.wb,.agg #[ae gn nN nN,ae gq nQ nQ],ab i,ab k,ac w.heap.size,ac (w.heap.size+1),ac (w.heap.size+2),ac (w.heap.size+3),.bool false,ab (y.1.1:Int),ac pb,undef,undef,undef,undef,ac Q.wb,ac Q.wb,.pointer (some (af Q.wb 3)),ae Q.gt nQ Q.ct,.func (.func 137) #[] #[ac (w.heap.size+4)],ab (y.1.1:Int),y.1.2,undef,undef,undef,undef,undef,undef,undef,undef,undef,undef,undef,undef,undef,undef,undef,undef,undef,undef,undef,undef,undef,undef,undef,undef,undef,undef,undef,undef,undef,undef,undef,undef,undef,undef,undef,undef,undef,undef,undef,undef,undef,undef,undef,undef,undef,undef,undef,undef,undef,undef,undef,undef,undef,undef,undef],defers:=[]})
  ?ownA ?assign ?body ?done ?stop
 case own=>
  rintro pre A C row ⟨ta',h1,h2,h3,h4⟩ hg hr;have hk:A1 A C row.toList:=(A1.refl A row.toList).grown hg (fun q e=>.inl y27Z);exact⟨ta',h1.keeps hk (by have:=h2.size;omega) (fun q hq=>by have:=(hr q (by simpa using hq)).1;omega),h2.grown hg (fun r e=>.inr (hr r e).1),h3,h4⟩
 case ownA=>
  rintro y a' _ A C row ⟨pb,o,ho,h1,h2,h3,h4⟩ hg hr;exact⟨pb,o,ho,h1,lL h2 hg.size,FP h3 hg (fun r e=>(hr r e).2),h4⟩
 case assign=>
  rintro l pre ⟨⟨q,pvl⟩,hi1,hi2⟩ W K ⟨ta',h1,h2,h3,h4⟩ hK;simp only at hi1 hi2;obtain⟨o,ho,rfl⟩:=hi2;have hsz:=h2.size;have hkw:A1 W (W.alloc (.cells #[.bool o.isNone,.bool (M4 o),ab (M3 o)] 205)) []:=(A1.refl W []).alloc _;simp only[NX]
  gi_wp2
  exact hK _ _ ((KeepsOthers.alloc _ _).from _) (FB.keeps hkw (by omega) (by omega) (fun q h=>by cases h)) ⟨ta',h1.keeps hkw (by omega) (fun q h=>by cases h),h2.alloc _,h3,h4⟩ ⟨W.heap.size,o,ho,by omega,by rw[World.size_alloc];omega,World.alloc_heap_new W _,rfl⟩
 case body=>
  rintro l pre ⟨⟨q,pvl⟩,hi1,hi2⟩ a' W hl ⟨r,hr⟩ ⟨ta',h1,h2,h3,h4⟩ ⟨pb,o,ho,hp1,hp2,hp3,rfl⟩ hlt;simp only at hi1 hi2 ho hp3 ⊢;have hsz:=h2.size;have hBW:B<=W.heap.size:=by omega
  have hbW:Below B w W:=HBW0.out.trans (h2.below (by omega) (fun q hq=>by rw[mS.1 hq];exact hgqB));have hbxW:RG W w.heap.size Q.wb gn nN gq nQ i k:=HBR.out.keeps h2 (fun q hq=>by rw[mS.1 hq];omega);have ct0:W.cell? (af pb 0)=some (.bool o.isNone):=(A0 hp3).trans rfl;have HOrd:=hid h4;have H3:=hid h3;have hqL:q<Q.tls.length:=by rw[<-HNQ.out];exact hi1
  have HQL:=hid hqL;have hqi:((q:Int)< (nQ:Int)):=by omega
  have HC1:=hid h1;have HK1:=hid h2;have HBw1:=hid hbW;have HBX1:=hid hbxW;cases o with
  |none=>
   have ct0:W.cell? (af pb 0)=some (.bool true):=ct0;clear h1 h2 h3 h4 hbW hbxW hp3
   gi_wp2
   refine⟨KeepsFrom.refl _ _,⟨Below.refl _ _,rfl⟩,ta',HC1.out,HK1.out,H3.out,fun hh=>?_⟩;rw[List.map_append]at hh;obtain⟨h5,h6⟩:=hh.snoc;rw[lM]at h6;have h6:pre.length+q+1=nQ:=h6;have h7:=HOrd.out h5;rw[lA,List.length_singleton];rw[show nQ - pre.length=q+1 by omega]at h7;rw[show nQ - (pre.length+1)=q by omega];exact h7.skip (fun p ps e=>by rw[fY ho]at e;cases e)
  |some p=>
   have ct0:W.cell? (af pb 0)=some (.bool false):=ct0;have HCv1:=hid HC1.out;have HKp1:=hid HK1.out;have HSmA1:Hid (FX ta'):=hid H3.out.sm.2;clear h1 h2 h3 h4 hbW hbxW hp3
   gi_wp2
   have cB1:W.cell? (af w.heap.size 0)=some (ac Q.wb):=(A0 HBX1.out.1).trans rfl;have cP1:W.cell? (af (w.heap.size+1) 1)=some (ae gq nQ nQ):=(A0 HBX1.out.2.1).trans rfl;have cI1:W.cell? (af (w.heap.size+2) 0)=some (ab i):=(A0 HBX1.out.2.2.1).trans rfl;have cK1:W.cell? (af (w.heap.size+3) 0)=some (ab k):=(A0 HBX1.out.2.2.2).trans rfl;have HSp1:=hid (HS.out W.drew ta' i q p (HBw1.out.drew) (by show B<=W.heap.size;have:=HBw1.out.size;omega) (HCv1.out.keeps (A1.refl W []).drew y75Z (fun q h=>by cases h)) HSmA1.out (lR_ _) hik ho);obtain⟨Y1,hY1⟩:=qE (EQ Q.T.N Q.row cn ct i k nm ta' p q i);rw[hY1]at HSp1;have HY1:=hid hY1;clear hY1;have hsW1:W0.heap.size<=W.heap.size:=HKp1.out.size;refine GA (S:=fun w'=>w'.cell? (af w.heap.size 0)=some (ac Q.wb)/\w'.cell? (af (w.heap.size+1) 1)=some (ae gq nQ nQ)/\w'.cell? (af (w.heap.size+2) 0)=some (ab i)/\w'.cell? (af (w.heap.size+3) 0)=some (ab k)) hmx y1Z y9Z ⟨cB1,cP1,cI1,cK1⟩ (fun hH=>?_)
   refine tB 0 hH ?_;refine tB 1 hH ?_;refine tB 2 hH ?_;refine tB 3 hH ?_;refine tB 4 hH ?_;refine tB 5 hH ?_;refine tB 6 hH ?_;refine tB 7 hH ?_;refine tB 8 hH ?_;refine tL ?_;refine tS 9 fun K hK=>?_
   refine tM ?_;rw[if_pos (by rfl)];go_simp;refine HSp1.out.mono ?_;rintro e v1 ⟨rfl,hb6⟩;refine hK.out _ _ ?_ fun hH=>?_
   ·exact⟨(hb6.cell y57Z).trans hH.1,(hb6.cell (by show w.heap.size+1<W.heap.size;omega)).trans hH.2.1,(hb6.cell (by show w.heap.size+2<W.heap.size;omega)).trans hH.2.2.1,(hb6.cell (by show w.heap.size+3<W.heap.size;omega)).trans hH.2.2.2⟩
   clear hK K;refine tL ?_;have hbv1:Below W.heap.size W v1:=(Below.refl _ W).drew.trans hb6;have hsv1:W.heap.size<=v1.heap.size:=hbv1.size;have HCm1:=hid (HCv1.out.keeps (A1.of_below hbv1 []) y75Z (fun q h=>by cases h));have HBv1:=hid hbv1;clear hb6 hbv1;refine tS 10 fun K hK=>?_
   refine tM ?_;rw[if_pos (by rfl)];go_simp;refine(TW HCm1.out y75Z HQL.out Y1).mono ?_;rintro e w8 ⟨rfl,hc7,hk7⟩;refine hK.out _ _ ?_ fun hH=>?_
   ·exact⟨(hk7.cell (by show w.heap.size<v1.heap.size;omega) y2Z).trans hH.1,(hk7.cell (by show w.heap.size+1<v1.heap.size;omega) y2Z).trans hH.2.1,(hk7.cell (by show w.heap.size+2<v1.heap.size;omega) y2Z).trans hH.2.2.1,(hk7.cell (by show w.heap.size+3<v1.heap.size;omega) y2Z).trans hH.2.2.2⟩
   clear hK K;refine tL ?_;refine wpAnyH_done y1Z ?_ _;clear hH;have HW1:Hid (A1 W w8 [gq]):=hid ((A1.of_below HBv1.out _).trans hk7);have HCo1:=hid hc7;clear hc7 hk7 cB1 cP1 cI1 cK1;have HCv2:=hid HCo1.out;have HKp2:Hid (A1 W0 w8 [gq]):=hid (HKp1.out.trans HW1.out);have HBw2:Hid (Below B w w8):=hid (HBW0.out.trans (HKp2.out.below (by omega) (fun q hq=>by rw[mS.1 hq];exact hgqB)));have HBX2:Hid (RG w8 w.heap.size Q.wb gn nN gq nQ i k):=hid (HBR.out.keeps HKp2.out (fun q hq=>by rw[mS.1 hq];omega));have HSmA2:Hid (FX (AZ ta' q (BL (ta' q) Y1))):=hid (HSmA1.out.set q (by rw[<-HY1.out];exact NP _ _))
   gi_wp2
   have cB2:w8.cell? (af w.heap.size 0)=some (ac Q.wb):=(A0 HBX2.out.1).trans rfl;have cP2:w8.cell? (af (w.heap.size+1) 1)=some (ae gq nQ nQ):=(A0 HBX2.out.2.1).trans rfl;have cI2:w8.cell? (af (w.heap.size+2) 0)=some (ab i):=(A0 HBX2.out.2.2.1).trans rfl;have cK2:w8.cell? (af (w.heap.size+3) 0)=some (ab k):=(A0 HBX2.out.2.2.2).trans rfl;have HSp2:=hid (HS.out w8.drew (AZ ta' q (BL (ta' q) Y1)) k q p (HBw2.out.drew) (by show B<=w8.heap.size;have:=HBw2.out.size;omega) (HCv2.out.keeps (A1.refl w8 []).drew y76Z (fun q h=>by cases h)) HSmA2.out hik (lR_ _) ho);obtain⟨Y2,hY2⟩:=qE (EQ Q.T.N Q.row cn ct i k nm (AZ ta' q (BL (ta' q) Y1)) p q k);rw[hY2]at HSp2;have HY2:=hid hY2;clear hY2;have hsW2:W0.heap.size<=w8.heap.size:=HKp2.out.size;refine GA (S:=fun w'=>w'.cell? (af w.heap.size 0)=some (ac Q.wb)/\w'.cell? (af (w.heap.size+1) 1)=some (ae gq nQ nQ)/\w'.cell? (af (w.heap.size+2) 0)=some (ab i)/\w'.cell? (af (w.heap.size+3) 0)=some (ab k)) hmx y1Z y9Z ⟨cB2,cP2,cI2,cK2⟩ (fun hH=>?_)
   refine tB 0 hH ?_;refine tB 1 hH ?_;refine tB 2 hH ?_;refine tB 3 hH ?_;refine tB 4 hH ?_;refine tB 5 hH ?_;refine tB 6 hH ?_;refine tB 7 hH ?_;refine tB 8 hH ?_;refine tL ?_;refine tS 9 fun K hK=>?_
   refine tM ?_;rw[if_pos (by rfl)];go_simp;refine HSp2.out.mono ?_;rintro e v2 ⟨rfl,hb6⟩;refine hK.out _ _ ?_ fun hH=>?_
   ·exact⟨(hb6.cell (by show w.heap.size<w8.heap.size;omega)).trans hH.1,(hb6.cell (by show w.heap.size+1<w8.heap.size;omega)).trans hH.2.1,(hb6.cell (by show w.heap.size+2<w8.heap.size;omega)).trans hH.2.2.1,(hb6.cell (by show w.heap.size+3<w8.heap.size;omega)).trans hH.2.2.2⟩
   clear hK K;refine tL ?_;have hbv2:Below w8.heap.size w8 v2:=(Below.refl _ w8).drew.trans hb6;have hsv2:w8.heap.size<=v2.heap.size:=hbv2.size;have HCm2:=hid (HCv2.out.keeps (A1.of_below hbv2 []) y76Z (fun q h=>by cases h));have HBv2:=hid hbv2;clear hb6 hbv2;refine tS 10 fun K hK=>?_
   refine tM ?_;rw[if_pos (by rfl)];go_simp;refine(TW HCm2.out y76Z HQL.out Y2).mono ?_;rintro e w9 ⟨rfl,hc7,hk7⟩;refine hK.out _ _ ?_ fun hH=>?_
   ·exact⟨(hk7.cell (by show w.heap.size<v2.heap.size;omega) y2Z).trans hH.1,(hk7.cell (by show w.heap.size+1<v2.heap.size;omega) y2Z).trans hH.2.1,(hk7.cell (by show w.heap.size+2<v2.heap.size;omega) y2Z).trans hH.2.2.1,(hk7.cell (by show w.heap.size+3<v2.heap.size;omega) y2Z).trans hH.2.2.2⟩
   clear hK K;refine tL ?_;refine wpAnyH_done y1Z ?_ _;clear hH;have HW2:Hid (A1 w8 w9 [gq]):=hid ((A1.of_below HBv2.out _).trans hk7);have HCo2:=hid hc7;clear hc7 hk7 cB2 cP2 cI2 cK2;have hE:AZ (AZ ta' q (BL (ta' q) Y1)) q (BL (AZ ta' q (BL (ta' q) Y1) q) Y2)=AZ (AZ ta' q (BL (ta' q) Y1)) q (BL (BL (ta' q) Y1) Y2):=by rw[MP]
   have HCo2':Hid (E5 Q w9 B gi gn gq i k nm (AZ (AZ ta' q (BL (ta' q) Y1)) q (BL (BL (ta' q) Y1) Y2))):=hid (by rw[<-hE];exact HCo2.out);clear hE
   gi_wp2
   obtain⟨hq1,ps,htl1,htl2⟩:=MR HTl.out ho;have hEq:AZ (AZ ta' q (BL (ta' q) Y1)) q (BL (BL (ta' q) Y1) Y2)=AZ ta' q (BL (BL (ta' q) Y1) Y2):=cW _ _ _ _;have hK9:A1 W w9 [gq]:=HW1.out.trans HW2.out;refine⟨KeepsFrom.of_keeps hK9 (fun q hq=>by rw[mS.1 hq];omega),FB.keeps hK9 hBW (by omega) (fun q hq=>by rw[mS.1 hq];exact⟨hgqB,by omega⟩),_,HCo2'.out,HK1.out.trans hK9,⟨fun hm=>?_,HSm.out.1,?_⟩,fun hh=>?_⟩
   ·have m1:=(H3.out.mid hm).tail htl2 (lR_ i) hik
    rw[HY1.out]at m1;have m2:=m1.tail htl2 hik (lR_ k);rw[HY2.out,MP]at m2;exact m2
   ·have:=HSmA2.out.set q (b:=Y2) (by rw[<-HY2.out];exact NP _ _)
    rw[MP]at this;exact this
   ·rw[List.map_append]at hh
    obtain⟨h5,h6⟩:=hh.snoc;rw[lM]at h6;have h6:pre.length+q+1=nQ:=h6;have h7:=HOrd.out h5;rw[lA,List.length_singleton];rw[show nQ - pre.length=q+1 by omega]at h7;rw[show nQ - (pre.length+1)=q by omega];refine h7.step htl2 (fun m hm=>?_) ?_
    ·unfold AZ;rw[if_neg hm,if_neg hm]
    ·rw[MP,HY1.out]
     congr 1
     rw[<-HY2.out];exact LZ (by unfold AZ;rw[if_neg (by omega)])
 case done=>
  rintro D ys W hD hys ⟨ta',h1,h2,h3,h4⟩ hKD;have hEnds:I6 Q.T.N (BK Q.tls) Q.row cn ct i k nm ta' 0:=by
   have hl:=congrArg List.length hys;simp at hl;have h5:=h4 ⟨0,by rw[hys];simp⟩;rw[hl,Nat.sub_self]at h5;exact h5
  have hsz:=h2.size;have hBW:B<=W.heap.size:=by omega
  have hbW:Below B w W:=HBW0.out.trans (h2.below (by omega) (fun q hq=>by rw[mS.1 hq];exact hgqB));have hbxW:RG W w.heap.size Q.wb gn nN gq nQ i k:=HBR.out.keeps h2 (fun q hq=>by rw[mS.1 hq];omega);have hQW:=HQ.out W hbW;have c4W:W.cell? (af Q.wb 4)=some (ae Q.gh nN Q.ch):=(hbW.cell (by show Q.wb<B;omega)).trans c4;have cBW:W.cell? (af w.heap.size 0)=some (ac Q.wb):=(A0 hbxW.1).trans rfl;have HE:=hid hEnds;have H3:=hid h3;have HC:=hid h1;have HKW:Hid (A1 w W [gq]):=hid ((hk0.mono (fun q h=>by cases h)).trans h2);have HBxW:=hid hbxW;have HbW:=hid hbW;have hghl:Q.gh<Q.gp:=hQW.ghl;have hhl:Q.hds.length=nN:=by rw[HNN.out];exact hQW.hl
  have HHd:Hid (∀(n:Nat) (l:List Nat),Q.hds[n]?=some l->(∃v,W.cell? (af Q.gh n)=some v/\RwV W Q.gp v l)/\l.length<=60/\∀q∈l,q<Q.tls.length):=hid fun n l hl=>⟨hQW.hdc n l hl,hQW.hdl n l hl⟩
  have hch:nN<=Q.ch:=by rw[HNN.out];exact hQW.chl
  have hDW:D<W.heap.size:=(Array.getElem?_eq_some_iff.1 hKD).1;have HKD:=hid hKD;clear h1 h2 h3 h4 hEnds hys hbW hbxW hQW hKD hk0 hbw0 hbR
  gi_wp2
  gi_loopw [8,52] (fun lv z wr=>∃(low:Bool) (n:Nat) (nm':Nat->Wt),n<=nN/\lv=.bool low/\z=ab n/\Hid (E5 Q wr B gi gn gq i k nm' ta')/\Hid (A1 W wr [gn])/\Hid ((Mid Q.T.N (BK Q.tls) (FI Q.hds) Q.row cn ct i k nm ta'->Mid Q.T.N (BK Q.tls) (FI Q.hds) Q.row cn ct i k nm' ta')/\FX nm')/\Hid ((low=false->nm'=nm/\∀n' q,n'<n->FI Q.hds n' q->wle (nm n') (named (ta' q)))/\(low=true->muN nN nm'<muN nN nm))) (fun _ z _=>nN - (intOf z).toNat)
  case atStart=>exact⟨false,0,nm,Nat.zero_le _,rfl,rfl,HC,hid (A1.refl _ _),hid ⟨fun h=>h,HSm.out.1⟩,hid ⟨fun _=>⟨rfl,fun n' q h _=>by omega⟩,fun h=>by cases h⟩⟩
  case round=>
   obtain⟨low,n,nm',hn,rfl,rfl,hcv,hkw,hmd,hlw⟩:=hrel
   by_cases hlt:n<nN
   ·obtain⟨l,hl⟩:∃l,Q.hds[n]?=some l:=⟨_,gE (by rw[hhl];exact hlt)⟩
    obtain⟨⟨v,cv,hrv⟩,hl60,hlq⟩:=HHd.out n l hl;obtain⟨adh,caph,rfl,hcaph,hhc⟩:=hrv;have cvr:wr.cell? (af Q.gh n)=some (.slice adh l.length caph):=(hkw.out.cell (by show Q.gh<W.heap.size;omega) y2Z).trans cv;obtain⟨nl,hnl⟩:=qE (l.length);rw[hnl]at cvr hcaph hhc hl60;have HL:Hid (l.length=nl/\Q.hds[n]?=some l/\∀q∈l,q<Q.tls.length):=hid ⟨hnl,hl,hlq⟩;have HHc:=hid hhc;clear cv hnl hl hlq hhc
    gi_wp2
    gi_loopw [8,59] (fun lv z wn=>∃(low:Bool) (h:Nat) (nm':Nat->Wt),h<=nl/\lv=.bool low/\z=ab h/\Hid (E5 Q wn B gi gn gq i k nm' ta')/\Hid (A1 W wn [gn])/\Hid ((Mid Q.T.N (BK Q.tls) (FI Q.hds) Q.row cn ct i k nm ta'->Mid Q.T.N (BK Q.tls) (FI Q.hds) Q.row cn ct i k nm' ta')/\FX nm')/\Hid ((low=false->nm'=nm/\(∀n' q,n'<n->FI Q.hds n' q->wle (nm n') (named (ta' q)))/\∀q∈l.take h,wle (nm n) (named (ta' q)))/\(low=true->muN nN nm'<muN nN nm))) (fun _ z _=>nl - (intOf z).toNat)
    case atStart=>exact⟨low,0,nm',Nat.zero_le _,rfl,rfl,hcv,hkw,hmd,hid ⟨fun h=>⟨(hlw.out.1 h).1,(hlw.out.1 h).2,fun q hq=>by simp at hq⟩,hlw.out.2⟩⟩
    case round=>
     clear hcv hkw hmd hlw cvr;obtain⟨low,h,nm',hh,rfl,rfl,hcv,hkw,hmd,hlw⟩:=hrel
     by_cases hlh:h<nl
     ·obtain⟨q,hq⟩:∃q,l[h]?=some q:=⟨_,gE (by rw[HL.out.1];exact hlh)⟩
      have hqm:q∈l:=mG hq;have hqlt:q<nQ:=by rw[HNQ.out];exact HL.out.2.2 q hqm
      obtain⟨g,off,rfl,hgl,hgc⟩:=HHc.out (by omega);have cq:wr.cell? (af g (off+h))=some (ab q):=(hkw.out.cell (by show g<W.heap.size;omega) y2Z).trans (hgc h q hq);have hszr:=hkw.out.size;have hBr:B<=wr.heap.size:=by omega
      have hbxr:RG wr w.heap.size Q.wb gn nN gq nQ i k:=HBxW.out.keeps hkw.out (fun q hq=>by rw[mS.1 hq];omega);have cP0:wr.cell? (af (w.heap.size+1) 0)=some (ae gn nN nN):=(A0 hbxr.2.1).trans rfl;have cP1:wr.cell? (af (w.heap.size+1) 1)=some (ae gq nQ nQ):=(A0 hbxr.2.1).trans rfl;obtain⟨cT0,cT1⟩:=hcv.out.tac q (HL.out.2.2 q hqm);have hta2:=H3.out.sm.2 q;unfold AB FZ at hta2;obtain⟨t1,ht1⟩:=qE ((ta' q).1);obtain⟨t2,ht2⟩:=qE ((ta' q).2);rw[ht1]at cT0 hta2;rw[ht2]at cT1 hta2;obtain⟨hta1,hta2⟩:=hta2;have HNm:Hid (∀V,Calls Tryz.prog 112 #[.agg #[ab t1,ab t2]] V fun e w'=>e=.returned (wtV (named (t1,t2)))/\Below V.heap.size V w'):=hid fun V=>UL t1 t2 (by omega) hta2 V
      obtain⟨Y,hY⟩:=qE (named (t1,t2));have HY:Hid (named (ta' q)=Y):=hid (by rw[<-hY,<-ht1,<-ht2]);rw[hY]at HNm;have HQM:Hid (FI Q.hds n q/\l[h]?=some q):=hid ⟨⟨l,HL.out.2.1,hqm⟩,hq⟩;have hqi:((q:Int)< (nQ:Int)):=by omega
      have hni:((n:Int)< (nN:Int)):=by omega
      have HhN:Hid (n<Q.T.N.nN):=hid (by rw[<-HNN.out];exact hlt);clear hbxr hq hqm hgc ht1 ht2 hY
      gi_wp2
      refine K7 ((wpIn_wide (n:=4)).2 ?_);refine wp_region_held_drew (S:=fun w'=>w'.cell? (af (w.heap.size+1) 0)=some (ae gn nN nN)/\w'.cell? (af (w.heap.size+1) 1)=some (ae gq nQ nQ)/\w'.cell? (af gq (q*2))=some (ab t1)/\w'.cell? (af gq (q*2+1))=some (ab t2)) y1Z ⟨cP0,cP1,cT0,cT1⟩ (fun hH=>?_);refine tB 0 hH ?_;refine tB 1 hH ?_;refine tB 2 hH ?_;refine tB 3 hH ?_;refine tB 4 hH ?_;refine tB 5 hH ?_;refine tB 6 hH ?_;refine tB 7 hH ?_;refine tB 8 hH ?_;refine tL ?_;refine tS 9 fun K hK=>?_
      refine tM ?_
      go_simp;refine(HNm.out _).mono ?_;rintro e w6 ⟨rfl,hb6⟩;try dsimp only
      refine hK.out _ _ ?_ fun hH=>?_
      ·exact⟨(hb6.cell (by show w.heap.size+1<wr.heap.size;omega)).trans hH.1,(hb6.cell (by show w.heap.size+1<wr.heap.size;omega)).trans hH.2.1,(hb6.cell (by show gq<wr.heap.size;omega)).trans hH.2.2.1,(hb6.cell (by show gq<wr.heap.size;omega)).trans hH.2.2.2⟩
      clear hK K;refine tL ?_;have hb6':Below wr.heap.size wr w6:=(Below.refl _ wr).drew.trans hb6;have hs6:=hb6'.size;have HC6:=hid (hcv.out.keeps (A1.of_below hb6' []) hBr (fun q h=>by cases h));have HB6:=hid hb6';have hne:gq≠gn:=Ne.symm hcv.out.ne;clear hb6 hb6';refine tS 10 fun K hK=>?_
      refine tM ?_
      go_simp;refine(q8 HC6.out (by omega) HhN.out Y).mono ?_;rintro e w7 ⟨rfl,hc7,hk7⟩;try dsimp only
      refine hK.out _ _ ?_ fun hH=>?_
      ·exact⟨(hk7.cell (by show w.heap.size+1<w6.heap.size;omega) y2Z).trans hH.1,(hk7.cell (by show w.heap.size+1<w6.heap.size;omega) y2Z).trans hH.2.1,(hk7.cell (by show gq<w6.heap.size;omega) y66Z).trans hH.2.2.1,(hk7.cell (by show gq<w6.heap.size;omega) y66Z).trans hH.2.2.2⟩
      clear hK K;refine tL ?_;refine wpAnyH_done y1Z ?_ _;have HC7:=hid hc7;have HK7:Hid (A1 W w7 [gn]):=hid ((hkw.out.trans (A1.of_below HB6.out _)).trans hk7);have hyh:Y.2<=FZ:=by rw[<-HY.out];exact NP _ _
      have HSm7:Hid (FX (AZ nm' n (BL (nm' n) Y))):=hid (hmd.out.2.set n hyh);have HMd7:Hid (Mid Q.T.N (BK Q.tls) (FI Q.hds) Q.row cn ct i k nm ta'->Mid Q.T.N (BK Q.tls) (FI Q.hds) Q.row cn ct i k (AZ nm' n (BL (nm' n) Y)) ta'):=hid fun hm=>by
       have:=(hmd.out.1 hm).name HQM.out.1;rw[HY.out]at this;exact this
      have hmu:wlt Y (nm' n)->muN nN (AZ nm' n (BL (nm' n) Y))<muN nN nm':=fun hw=>uI hlt hyh hw
      have hmu0:muN nN nm'<=muN nN nm:=by
       cases low with
       |false=>rw[(hlw.out.1 rfl).1];exact lR_ _
       |true=>exact Nat.le_of_lt (hlw.out.2 rfl)
      clear hH hc7 hk7 cP0 cP1 cT0 cT1;refine F3 (Q:=fun _ _ _=>False) ?_;obtain⟨bw,hbw⟩:=qE (decide (wlt Y (nm' n)));rw[hbw];cases bw
      case true=>
       have hw:wlt Y (nm' n):=of_decide_eq_true hbw;clear hbw;have HMu:=hid (lL (hmu hw) hmu0);clear hw hmu hmu0 hyh
       gi_wp2
       go_roundw
       case rel=>exact⟨true,h+1,_,by omega,rfl,by go_num,HC7,HK7,hid ⟨HMd7.out,HSm7.out⟩,hid ⟨fun h=>(by cases h),fun _=>HMu.out⟩⟩
       case measure=>simp[intOf];omega
      case false=>
       have hw:¬wlt Y (nm' n):=of_decide_eq_false hbw;clear hbw;have hsame:AZ nm' n (BL (nm' n) Y)=nm':=by rw[L4,if_neg hw];funext m;unfold AZ;split <;> simp_all
       have HLe:Hid (wle (nm' n) Y):=hid (fC hw);rw[hsame]at HC7 HSm7 HMd7;clear hw hmu hmu0 hyh hsame
       gi_wp2
       go_roundw
       case rel=>exact⟨low,h+1,nm',by omega,rfl,by go_num,HC7,HK7,hid ⟨HMd7.out,HSm7.out⟩,hid ⟨fun hf=>⟨(hlw.out.1 hf).1,(hlw.out.1 hf).2.1,fun x hx=>by
        rw[List.take_add_one,HQM.out.2]at hx
        rcases List.mem_append.1 hx with hx |hx
        ·exact(hlw.out.1 hf).2.2 x hx
        ·have:x=q:=by simpa using hx
         subst this;rw[HY.out,<-(hlw.out.1 hf).1];exact HLe.out⟩,hlw.out.2⟩⟩
       case measure=>simp[intOf];omega
     ·have HH:Hid (h=nl):=hid (by omega)
      gi_wp2
      go_roundw
      case rel=>exact⟨low,n+1,nm',by omega,rfl,by go_num,hcv,hkw,hmd,hid ⟨fun hf=>⟨(hlw.out.1 hf).1,fun n' q hn' hq=>by
       rcases Nat.lt_or_ge n' n with h5 |h5
       ·exact(hlw.out.1 hf).2.1 n' q h5 hq
       ·obtain rfl:n'=n:=by omega
        obtain⟨l',hl',hq'⟩:=hq;rw[HL.out.2.1]at hl';injection hl' with hl'
        subst hl';exact(hlw.out.1 hf).2.2 q (by rw[HH.out,<-HL.out.1,List.take_length];exact hq')⟩,hlw.out.2⟩⟩
      case measure=>simp[intOf];omega
   ·have HNn:Hid (n=nN):=hid (by omega)
    have hDr:wr.heap[D]?=some (.deferred (some [])):=(hkw.out.block D hDW y2Z).trans HKD.out;have HDr:=hid hDr;have hszr:=hkw.out.size;clear hDr
    gi_wp2
    refine⟨by simp,.inl ⟨_,_,rfl,run_takeDeferred HDr.out,?_⟩⟩;have hkp:A1 wr (wr.putObj D (.deferred none)) [D]:=(A1.refl wr [D]).grown (grownBy_putObj' _ D (.deferred none)) (fun k e=>by cases e;exact .inl (by simp));refine⟨_,results_tmp rfl _ _ _,low,nm',ta',rfl,hcv.out.keeps hkp (by omega) (fun q h=>by have:=mS.1 h;omega),((HKW.out.mono (fun q hq=>by simp[mS.1 hq])).trans (hkw.out.mono (fun q hq=>by simp[mS.1 hq]))).grown (grownBy_putObj' _ D (.deferred none)) (fun k e=>by cases e;exact .inr (by omega)),⟨fun hm=>hmd.out.1 (H3.out.mid hm),hmd.out.2,H3.out.sm.2⟩,fun hf=>⟨(hlw.out.1 hf).1,HE.out,fun n' q hq=>(hlw.out.1 hf).2 n' q (by obtain⟨l',hl',_⟩:=hq;rw[HNn.out,<-hhl];exact(gS_.1 hl').1) hq⟩,hlw.out.2⟩
 case stop=>
  rintro D c pre W _ _ h _;exact h.elim
end Go.Proofs.YtjjggdcnpndgjabGreatDoor
