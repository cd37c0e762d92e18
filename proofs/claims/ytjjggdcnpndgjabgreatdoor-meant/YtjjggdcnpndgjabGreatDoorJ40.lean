import Derived.Test.YtjjggdcnpndgjabGreatDoorJ39
set_option linter.unusedSimpArgs false
set_option maxHeartbeats 8000000
set_option maxRecDepth 100000
namespace Go.Proofs.YtjjggdcnpndgjabGreatDoor
open Go.RowKit Go.Shelf
variable {e:EdP}{row:List Nat}
section
theorem Tryz.infoE42:(Tryz.prog.info? 42).map (fun i=>(i.zero,i.size,i.bytes))=some (some (.agg #[ab 0,ab 0,.string ByteArray.empty,.string ByteArray.empty]),4,48):=by kernel_rfl
theorem Tryz.infoE30:(Tryz.prog.info? 30).map (fun i=>(i.zero,i.size,i.bytes))=some (some (.slice none 0 0),1,24):=by kernel_rfl
def oE (T:Tab) (e:EdP) (L1 L2:List Pt) (a':Nat) (nw:List Nat):Prop:=
 (e.kind=1/\e.new<T.N.nT/\BB T.rul L1 e.new=some L2/\a'=e.loc/\nw=[e.new])\/(e.kind=2/\L2=L1/\a'=e.loc+1/\nw=[])\/(e.kind=3/\e.new<T.N.nT/\BB T.rul L1 e.new=some L2/\a'=e.loc+1/\nw=[e.new])
def IZ (T:Tab) (L:List Pt):List ByteArray:=G6 T.tws T.N.nT (B1 (J2 T L))
section
variable {T:Tab}{w:World}{mb wk B a c:Nat}{rv:Value}{made:List Nat}{E:List EdP}{L L1 L2:List Pt}{X:List (List ByteArray)}
theorem wD (hTk:T.Ok) {a':Nat}{nw:List Nat} (hI:T.In w) (hBd:T.Bd B) (hB:B<=w.heap.size) (hTab:∀V,AW B w V->TabAt 0 Lib.deBruijn32tab V) (h:MdT T w mb wk B rv a c made E L X) (hrw:RwV w B rv row) (hrl:∀t∈row,t<T.N.nT) (ha:a<=e.loc) (ha2:e.loc<=row.length) (h100:row.length<=100)
  (hrun:BF T.rul L ((row.drop a).take (e.loc - a))=some L1) (hst:oE T e L1 L2 a' nw) (hold:e.old<=T.N.nT) (hnew:e.new<=T.N.nT) (hm:made.length+(e.loc - a)<=9900) (hc:c<=1000000) (hec:e.cost<=1000000) (hE:E.length<=1000000) (hXl:X.length<=1000000):
  Calls Tryz.prog 28 #[ac mb,.agg #[ab e.loc,ab e.kind,ab e.old,ab e.new,ab e.cost]] w fun r w'=>r=.returned (.tuple #[])/\MdT T w' mb wk B rv a' (c+e.cost) (made++(row.drop a).take (e.loc - a)++nw) (E++ [e]) L2 (X++ [IZ T L1])/\AW B w w':=by
 obtain⟨iI,hiI,hzI0,hzI1,hzI2⟩:=info_parts Tryz.infoX3;obtain⟨iE,hiE,hzE0,hzE1,hzE2⟩:=info_parts Tryz.infoE42;obtain⟨iR,hiR,hzR0,hzR1,hzR2⟩:=info_parts Tryz.infoE30;have HI:Hid (∀V,AW B w V->T.In V):=hid fun V hk=>hI.below hBd (hk.below hB)
 have HTk:Hid (T.Ok/\T.Bd B):=hid ⟨hTk,hBd⟩;have HTab:=hid hTab;have HSt:=hid hst;have htbB:T.tb<B:=hBd.tb;obtain⟨loc,kind,old,new,cost⟩:=e;simp only at ha ha2 hrun hold hnew hm hec ⊢;obtain⟨made1,hmade1⟩:=qE (made++(row.drop a).take (loc - a));have hm1:made1.length<=9900:=by rw[<-hmade1];simp;omega
 have hloc:loc<=100:=by omega
 rw[hmade1];obtain⟨W1,hW1⟩:=qE (w.alloc (.cells #[ab loc,ab kind,ab old,ab new,ab cost] 92));have hb1:Below w.heap.size w W1:=by rw[<-hW1];exact(Below.refl _ w).alloc (lR_ _) _
 have he1:W1.heap[w.heap.size]?=some (.cells #[ab loc,ab kind,ab old,ab new,ab cost] 92 (0,0)):=by rw[<-hW1];exact World.alloc_heap_new w _
 have hs1:w.heap.size<W1.heap.size:=lt_of_block he1;have HK1:Hid (AW B w W1):=hid (AW.of_below hb1);have HKt:Hid (Calls Tryz.prog 29 #[ac mb,ab loc] W1 fun r w'=>r=.returned (.tuple #[])/\MdT T w' mb wk B rv loc c made1 E L1 X/\AW B W1 w'):=hid (by
  rw[<-hmade1];exact UM hTk (HI.out W1 HK1.out) hBd (by omega) (h.below hb1) (hrw.below (hb1.mono hB)) hrl ha ha2 h100 hrun (by omega))
 have HW1:=hid hW1;have HE1:=hid he1;clear hI hTk hBd hTab h hrw hrl hrun hst hmade1 hb1 ha ha2 hW1;have c0:W1.cell? (af w.heap.size 0)=some (ab loc):=(A0 he1).trans rfl
 go_enter Tryz.func28,Tryz.ntmps28
 go_upto_region 1 with fail
 rw[HW1.out]
 go_upto_region 2 with(go_at_call 29;refine HKt.out.mono ?_;rintro r w2 ⟨rfl,hm2,hk2⟩;have HM2:=hid hm2;have HK2:Hid (AW B W1 w2):=hid hk2;clear hm2 hk2)
 obtain⟨x,⟨vm,ve,vc,vr,vx,ws,xs,hv2⟩,hx,hLl,hps⟩:=HM2.out;have hs2:W1.heap.size<=w2.heap.size:=HK2.out.size;have hk02:AW B w w2:=HK1.out.trans HK2.out;have heb2:w2.heap[w.heap.size]?=some (.cells #[ab loc,ab kind,ab old,ab new,ab cost] 92 (0,0)):=(HK2.out.block _ hs1 (.inr ⟨_,_,HE1.out⟩)).trans HE1.out;have hI2:=HI.out w2 hk02;obtain⟨d0,d1,_⟩:=hI2.tv.heads;have HWd:Hid (∀V u,Below w2.heap.size w2 V->u<=T.N.nT->Calls Tryz.prog 43 #[.agg #[.slice T.adT T.N.nT T.capT,ae T.gN T.N.nN T.capN],ab (u:Nat)] V fun r w'=>r=.returned (.string (CX T.tws T.N.nT u))/\Below V.heap.size V w'):=hid fun V u hbV hu=>by
  have hIV:=hI2.below hI2.bd hbV;exact PE V T.n0 T.N T.tws T.pg T.adT T.capT T.gN T.capN hIV.fc.gr hIV.fc.ln u hu
 have HWo:Hid (∀V,Below w2.heap.size w2 V->Calls Tryz.prog 43 #[.agg #[.slice T.adT T.N.nT T.capT,ae T.gN T.N.nN T.capN],ab old] V fun r w'=>r=.returned (.string (CX T.tws T.N.nT old))/\Below V.heap.size V w'):=hid fun V hbV=>HWd.out V old hbV hold
 have HWn:Hid (∀V,Below w2.heap.size w2 V->Calls Tryz.prog 43 #[.agg #[.slice T.adT T.N.nT T.capT,ae T.gN T.N.nN T.capN],ab new] V fun r w'=>r=.returned (.string (CX T.tws T.N.nT new))/\Below V.heap.size V w'):=hid fun V hbV=>HWd.out V new hbV hnew
 obtain⟨wo,hwo⟩:=qE (CX T.tws T.N.nT old);obtain⟨wn,hwn⟩:=qE (CX T.tws T.N.nT new);obtain⟨nT,hnT⟩:=qF (T.N.nT);obtain⟨nN,hnN⟩:=qF (T.N.nN);rw[hwo,<-hnT,<-hnN]at HWo;rw[hwn,<-hnT,<-hnN]at HWn;rw[<-hnT]at d0;rw[<-hnN]at d1;have HWE:Hid (CX T.tws T.N.nT old=wo/\CX T.tws T.N.nT new=wn):=hid ⟨hwo,hwn⟩;have e0:=(A0 (j:=0) heb2).trans rfl;have e1:=(A0 (j:=1) heb2).trans rfl;have e2:=(A0 (j:=2) heb2).trans rfl;have e3:=(A0 (j:=3) heb2).trans rfl;have m0:w2.cell? (af mb 0)=some (ac T.tb):=(A0 hv2.blk).trans rfl;have m5:w2.cell? (af mb 5)=some ve:=(A0 hv2.blk).trans rfl;obtain⟨nE,hnE⟩:=qF (E.length);rw[<-hnE]at hE;have hrow5:w2.ownsRow B 42 4 ve nE (E.flatMap (aeC T)):=by rw[hnE];exact hv2.rows 5 (.inr (.inl rfl))
 have ogM:some mb≠ve.ownBlock:=fun e=>A6 hrow5 hv2.blk (by decide) e.symm
 have ogE:some w.heap.size≠ve.ownBlock:=fun e=>A6 hrow5 heb2 (by decide) e.symm
 have ogT:some T.tb≠ve.ownBlock:=fun e=>by have:=(hrow5.lt _ e.symm).1;omega
 have hmb2:mb<w2.heap.size:=hv2.mbl;have HV2:=hid hv2;have HRow5:=hid hrow5;have HEb2:=hid heb2;have HK02:=hid hk02;have HNE:=hid hnE;have HXs:Hid (x<=2*made1.length/\L1.length<=7*made1.length+1/\AY T.N L1):=hid ⟨hx,hLl,hps⟩;clear hv2 hrow5 heb2 hk02 hnE hx hLl hps hI2 hwo hwn hnT hnN HWd c0;refine GY (fun w'=>(w'.cell? (af w.heap.size 0)=some (ab loc)/\w'.cell? (af w.heap.size 1)=some (ab kind)/\w'.cell? (af w.heap.size 2)=some (ab old)/\w'.cell? (af w.heap.size 3)=some (ab new))/\w'.cell? (af mb 0)=some (ac T.tb)/\w'.cell? (af mb 5)=some ve/\w'.cell? (af T.tb 0)=some (.slice T.adT nT T.capT)/\w'.cell? (af T.tb 1)=some (ae T.gN nN T.capN)) hmx y1Z ⟨⟨e0,e1,e2,e3⟩,m0,m5,d0,d1⟩ (fun hH=>?_);simp only[AC,BM,AO];refine tB 0 hH ?_;refine tB 1 hH ?_;refine tB 2 hH ?_;refine tB 3 hH ?_;refine tB 4 hH ?_;refine tB 5 hH ?_;refine tB 6 hH ?_;refine tB 7 hH ?_;refine tB 8 hH ?_;refine tB 9 hH ?_;refine tB 10 hH ?_
 refine tB 11 hH ?_;refine tB 12 hH ?_;refine tB 13 hH ?_;refine tB 14 hH ?_;refine tB 15 hH ?_;refine tB 16 hH ?_;refine tB 17 hH ?_;refine tB 18 hH ?_;refine tB 19 hH ?_;refine tB 21 hH ?_;refine tB 22 hH ?_;refine tB 23 hH ?_;refine tB 24 hH ?_;refine tB 25 hH ?_;refine tB 26 hH ?_;refine tB 27 hH ?_;refine tB 28 hH ?_;refine tB 29 hH ?_;refine tB 30 hH ?_;refine tL ?_;refine tS 20 fun K hK=>?_
 refine tM ?_
 go_simp;refine(HWo.out _ (Below.refl _ w2).drew).mono ?_;rintro r w5 ⟨rfl,hb5⟩;try dsimp only
 refine hK.out _ _ ?_ fun hH=>?_
 ·exact⟨⟨A4 hb5 hH.1.1,A4 hb5 hH.1.2.1,A4 hb5 hH.1.2.2.1,A4 hb5 hH.1.2.2.2⟩,A4 hb5 hH.2.1,A4 hb5 hH.2.2.1,A4 hb5 hH.2.2.2.1,A4 hb5 hH.2.2.2.2⟩
 clear hK K;refine tL ?_;have HB5:Hid (Below w2.heap.size w2 w5):=hid ((Below.refl _ w2).drew.trans hb5);refine tS 31 fun K hK=>?_
 refine tM ?_
 go_simp;refine(HWn.out _ HB5.out).mono ?_;rintro r w6 ⟨rfl,hb6⟩;try dsimp only
 refine hK.out _ _ ?_ fun hH=>?_
 ·exact⟨⟨A4 hb6 hH.1.1,A4 hb6 hH.1.2.1,A4 hb6 hH.1.2.2.1,A4 hb6 hH.1.2.2.2⟩,A4 hb6 hH.2.1,A4 hb6 hH.2.2.1,A4 hb6 hH.2.2.2.1,A4 hb6 hH.2.2.2.2⟩
 clear hK K;refine tL ?_;have HB6:Hid (Below w2.heap.size w2 w6):=hid (HB5.out.trans (hb6.mono HB5.out.size));refine tB 32 hH ?_;refine tL ?_;refine tS 33 fun K hK=>?_
 refine tM ?_;go_simp;refine hK.out _ _ ?_ fun hH=>?_
 ·exact⟨⟨A2 _ hH.1.1,A2 _ hH.1.2.1,A2 _ hH.1.2.2.1,A2 _ hH.1.2.2.2⟩,A2 _ hH.2.1,A2 _ hH.2.2.1,A2 _ hH.2.2.2.1,A2 _ hH.2.2.2.2⟩
 clear hK K;refine tL ?_;have hs6:w2.heap.size<=w6.heap.size:=HB6.out.size;have HR6:Hid (w6.ownsRow B 42 4 ve nE (E.flatMap (aeC T))):=hid (A8 HRow5.out (A1.of_below HB6.out []) (fun _ _=>by simp));refine tS 34 fun K hK=>?_
 refine tM ?_;rw[if_pos (by rfl)];refine wp_append_lies _ (.tmp 13) (.tmp 41) 32 rfl B 42 iE (.agg #[ab 0,ab 0,.string ByteArray.empty,.string ByteArray.empty]) 4 48 Tryz.underlying32 hiE hzE0 hzE1 hzE2 rfl (by decide) ve _ _ rfl (HR6.out.alloc _) (af w6.heap.size 0) 1 1 [ab loc,ab kind,.string wo,.string wn] rfl rfl (World.news_of_block (fr:=(0,0)) (heap_alloc_new w6 _)) y4Z (by omega) y3Z (by omega) y2Z _ rfl ?_;intro g8 cap8 w7 hown hgrow hat hlt2;refine hK.out _ _ ?_ fun hH=>?_
 ·exact⟨⟨(hgrow.cell_far _ y2Z (by exact ogE)).trans hH.1.1,(hgrow.cell_far _ y2Z (by exact ogE)).trans hH.1.2.1,(hgrow.cell_far _ y2Z (by exact ogE)).trans hH.1.2.2.1,(hgrow.cell_far _ y2Z (by exact ogE)).trans hH.1.2.2.2⟩,(hgrow.cell_far _ y2Z (by exact ogM)).trans hH.2.1,(hgrow.cell_far _ y2Z (by exact ogM)).trans hH.2.2.1,(hgrow.cell_far _ y2Z y35Z).trans hH.2.2.2.1,(hgrow.cell_far _ y2Z y35Z).trans hH.2.2.2.2⟩
 clear hK K;refine tL ?_;refine tB 35 hH ?_;refine tB 36 hH ?_;refine tB 37 hH ?_;refine tB 38 hH ?_;refine tL ?_;refine wpAnyH_done y1Z ?_ _;clear hH hb5 hb6 e0 e1 e2 e3 m0 m5 d0 d1;have happ:=(HV2.out.below HB6.out).app (f':=mdF T vm (ae g8 (nE+1) cap8) vc vr vx made1 made1 (E++ [⟨loc,kind,old,new,cost⟩]) E xs) (j0:=5) (.inr (.inl rfl)) ((A1.refl w6 []).alloc (.cells #[ab loc,ab kind,.string wo,.string wn] 42)) hgrow
  (by
   show w7.ownsRow B 42 4 _ (E++ [(⟨loc,kind,old,new,cost⟩:EdP)]).length ((E++ [(⟨loc,kind,old,new,cost⟩:EdP)]).flatMap (aeC T));have e:(E++ [(⟨loc,kind,old,new,cost⟩:EdP)]).flatMap (aeC T)=E.flatMap (aeC T)++ [ab loc,ab kind,.string wo,.string wn]:=by rw[List.flatMap_append,<-HWE.out.1,<-HWE.out.2];rfl
   rw[lA,e,<-HNE.out];exact hown) rfl rfl (N3 hat (by simp)) (fun j hj hne=>by rcases hj with e |e |e |e |e <;> subst e <;> first |exact absurd rfl hne |rfl)
 obtain⟨y1,y2,y3⟩:=happ;have yc:w7.cell? (af mb 5)=some ve:=(A0 y1).trans rfl;have yf:w7.frozen? (af mb 5)=false:=A3 y1;have HY:=hid (And.intro y2 y3);clear y1 y2 y3 hown hgrow hat hlt2;show wpList _ _ _ _ _ _
 go_upto_region 3 with fail
 obtain⟨W8,hW8⟩:=qE (w7.setCell (af mb 5) (ae g8 (nE+1) cap8));have HV8:Hid (MdV T W8 mb wk B rv loc c (mdF T vm (ae g8 (nE+1) cap8) vc vr vx made1 made1 (E++ [⟨loc,kind,old,new,cost⟩]) E xs) ws L1 x xs X):=hid (by rw[<-hW8];exact HY.out.1);have HK8:Hid (AW B w2 W8):=hid (by rw[<-hW8];exact(AW.of_below HB6.out).trans HY.out.2);rw[hW8];clear hW8 yc yf HY;have hs8:=HK8.out.size;have heb8:W8.heap[w.heap.size]?=some (.cells #[ab loc,ab kind,ab old,ab new,ab cost] 92 (0,0)):=(HK8.out.block _ (lt_of_block HEb2.out) (.inr ⟨_,_,HEb2.out⟩)).trans HEb2.out;have e4:=(A0 (j:=4) heb8).trans rfl;have m6:W8.cell? (af mb 6)=some vc:=(A0 HV8.out.blk).trans rfl;have hrow6:W8.ownsRow B 3 1 vc nE (D9 (E.map (·.cost))):=by rw[HNE.out];exact HV8.out.rows 6 (.inr (.inr (.inl rfl)))
 have ogM6:some mb≠vc.ownBlock:=fun e=>A6 hrow6 HV8.out.blk (by decide) e.symm
 have ogE6:some w.heap.size≠vc.ownBlock:=fun e=>A6 hrow6 heb8 (by decide) e.symm
 have HRow6:=hid hrow6;have HEb8:=hid heb8;have hmb8:mb<W8.heap.size:=HV8.out.mbl;clear heb8 hrow6;have heb8l:w.heap.size<W8.heap.size:=lt_of_block HEb8.out;refine GY (fun w'=>w'.cell? (af w.heap.size 4)=some (ab cost)/\w'.cell? (af mb 6)=some vc) hmx y1Z ⟨e4,m6⟩ (fun hH=>?_);simp only[AC,BM,AO];refine tB 0 hH ?_;refine tB 1 hH ?_;refine tB 2 hH ?_;refine tB 3 hH ?_;refine tB 4 hH ?_;refine tB 5 hH ?_;refine tB 6 hH ?_;refine tB 7 hH ?_;refine tL ?_;refine tS 8 fun K hK=>?_
 refine tM ?_;go_simp;refine hK.out _ _ ?_ fun hH=>?_
 ·exact⟨A2 _ hH.1,A2 _ hH.2⟩
 clear hK K;refine tL ?_;refine tS 9 fun K hK=>?_
 refine tM ?_;rw[if_pos (by rfl)];refine wp_append_lies _ (.tmp 51) (.tmp 54) 22 rfl B 3 iI (ab 0) 1 8 Tryz.underlying22 hiI hzI0 hzI1 hzI2 rfl (by decide) vc _ _ rfl (HRow6.out.alloc _) (af W8.heap.size 0) 1 1 [ab cost] rfl rfl (World.news_of_block (fr:=(0,0)) (heap_alloc_new W8 _)) y4Z (by omega) y3Z (by omega) y2Z _ rfl ?_;intro g9 cap9 w9 hown hgrow hat hlt2;refine hK.out _ _ ?_ fun hH=>?_
 ·exact⟨(hgrow.cell_far _ y2Z (by exact ogE6)).trans hH.1,(hgrow.cell_far _ y2Z (by exact ogM6)).trans hH.2⟩
 clear hK K;refine tL ?_;refine tB 10 hH ?_;refine tB 11 hH ?_;refine tB 12 hH ?_;refine tB 13 hH ?_;refine tL ?_;refine wpAnyH_done y1Z ?_ _;clear hH m6;have happ:=HV8.out.app (f':=mdF T vm (ae g8 (nE+1) cap8) (ae g9 (nE+1) cap9) vr vx made1 made1 (E++ [⟨loc,kind,old,new,cost⟩]) (E++ [⟨loc,kind,old,new,cost⟩]) xs) (j0:=6) (.inr (.inr (.inl rfl))) (((A1.refl W8 []).alloc (.cells #[ab cost] 3)).drew) hgrow
  (by
   show w9.ownsRow B 3 1 _ (E++ [(⟨loc,kind,old,new,cost⟩:EdP)]).length (D9 ((E++ [(⟨loc,kind,old,new,cost⟩:EdP)]).map (·.cost)));rw[lA,List.map_append,GI,<-HNE.out];exact hown) rfl rfl (N3 hat (by simp)) (fun j hj hne=>by rcases hj with e |e |e |e |e <;> subst e <;> first |exact absurd rfl hne |rfl)
 obtain⟨y1,y2,y3⟩:=happ;have yc:w9.cell? (af mb 6)=some vc:=(A0 y1).trans rfl;have yf:w9.frozen? (af mb 6)=false:=A3 y1;have HY:=hid (And.intro y2 y3);clear y1 y2 y3 hown hgrow hat hlt2;show wpList _ _ _ _ _ _
 go_upto_region 4 with fail
 obtain⟨W10,hW10⟩:=qE (w9.setCell (af mb 6) (ae g9 (nE+1) cap9));have HV10:Hid (MdV T W10 mb wk B rv loc c (mdF T vm (ae g8 (nE+1) cap8) (ae g9 (nE+1) cap9) vr vx made1 made1 (E++ [⟨loc,kind,old,new,cost⟩]) (E++ [⟨loc,kind,old,new,cost⟩]) xs) ws L1 x xs X):=hid (by rw[<-hW10];exact HY.out.1);have HK10:Hid (AW B W8 W10):=hid (by rw[<-hW10];exact HY.out.2);rw[hW10];clear hW10 yc yf HY e4;have hs10:=HK10.out.size;have heb10:W10.heap[w.heap.size]?=some (.cells #[ab loc,ab kind,ab old,ab new,ab cost] 92 (0,0)):=(HK10.out.block _ heb8l (.inr ⟨_,_,HEb8.out⟩)).trans HEb8.out;have e4:=(A0 (j:=4) heb10).trans rfl;have m7:W10.cell? (af mb 7)=some (ab c):=(A0 HV10.out.blk).trans rfl;have z7:W10.frozen? (af mb 7)=false:=A3 HV10.out.blk;have hcw:IntKind.i64.wrap ((c:Int)+(cost:Int))=(c:Int)+(cost:Int):=by rw[w64];omega
 have HEb10:=hid heb10;clear heb10;refine GY (fun w'=>w'.cell? (af w.heap.size 4)=some (ab cost)/\w'.cell? (af mb 7)=some (ab c)) hmx y1Z ⟨e4,m7⟩ (fun hH=>?_);simp only[AC,BM,AO];refine tB 0 hH ?_;refine tB 1 hH ?_;refine tB 2 hH ?_;refine tB 3 hH ?_;refine tB 4 hH ?_;refine tB 5 hH ?_;refine tB 6 hH ?_;refine tB 7 hH ?_;refine tB 8 hH ?_;refine tB 9 hH ?_;refine tB 10 hH ?_;refine tB 11 hH ?_;refine tL ?_;refine wpAnyH_done y1Z ?_ _;clear hH;show wpList _ _ _ _ _ _
 go_upto_region 5 with fail
 obtain⟨W11,hW11⟩:=qE ((W10.setCell (af mb 7) (ab ((c:Int)+(cost:Int)))).drew);have HVK11:Hid (MdV T W11 mb wk B rv loc (c+cost) (mdF T vm (ae g8 (nE+1) cap8) (ae g9 (nE+1) cap9) vr vx made1 made1 (E++ [⟨loc,kind,old,new,cost⟩]) (E++ [⟨loc,kind,old,new,cost⟩]) xs) ws L1 x xs X/\AW B W10 W11):=hid (by
  rw[<-hW11];obtain⟨z1,z2⟩:=HV10.out.setCost (c+cost);exact⟨z1.below (Below.refl _ _).drew,z2.trans (AW.of_below (Below.refl _ _).drew)⟩)
 rw[hW11];clear hW11 e4 m7 z7;have hs11:=HVK11.out.2.size;have hk011:AW B w W11:=HK02.out.trans (HK8.out.trans (HK10.out.trans HVK11.out.2));have HK011:=hid hk011;have HExp:Hid (∀V,Below W11.heap.size W11 V->Calls Tryz.prog 53 #[ac wk] V fun r w'=>∃u,r=.returned u/\DR w' V.heap.size u (IZ T L1)/\Below V.heap.size V w'):=hid fun V hbV=>a7 HTk.out.1 (HI.out V (HK011.out.trans (AW.of_below hbV))) (HTab.out V (HK011.out.trans (AW.of_below hbV))) (HVK11.out.1.below hbV).wkv (by have:=HXs.out.2.1;omega) HXs.out.2.2
 have m10:W11.cell? (af mb 10)=some vx:=(A0 HVK11.out.1.blk).trans rfl;have m4:W11.cell? (af mb 4)=some (ac wk):=(A0 HVK11.out.1.blk).trans rfl;obtain⟨nX,hnX⟩:=qF (xs.length);have hnX1:nX<=1000000:=by rw[hnX,<-HVK11.out.1.len];exact hXl
 have hrow10:W11.ownsRow B 30 1 vx nX xs:=by rw[hnX];exact HVK11.out.1.rows 10 (.inr (.inr (.inr (.inr rfl))))
 have ogM10:some mb≠vx.ownBlock:=fun e=>A6 hrow10 HVK11.out.1.blk (by decide) e.symm
 have hmb11:mb<W11.heap.size:=HVK11.out.1.mbl;have HRow10:=hid hrow10;have HNX:=hid hnX;clear hk011 hnX hrow10;refine GY (fun w'=>w'.cell? (af mb 10)=some vx/\w'.cell? (af mb 4)=some (ac wk)) hmx y1Z ⟨m10,m4⟩ (fun hH=>?_);simp only[AC,BM,AO];refine tB 0 hH ?_;refine tB 1 hH ?_;refine tB 2 hH ?_;refine tB 3 hH ?_;refine tB 4 hH ?_;refine tB 5 hH ?_;refine tB 6 hH ?_;refine tB 7 hH ?_;refine tB 8 hH ?_;refine tB 9 hH ?_;refine tL ?_;refine tS 10 fun K hK=>?_
 refine tM ?_
 go_simp;refine(HExp.out _ (Below.refl _ W11).drew).mono ?_;rintro r w12 ⟨u,rfl,hu,hb5⟩;obtain⟨ua,uc,rfl⟩:=BI hu;try dsimp only
 refine hK.out _ _ ?_ fun hH=>?_
 ·exact⟨A4 hb5 hH.1,A4 hb5 hH.2⟩
 clear hK K;refine tL ?_;have HB12:Hid (Below W11.heap.size W11 w12):=hid ((Below.refl _ W11).drew.trans hb5);have HU:=hid hu;obtain⟨nW,hnW⟩:=qF ((IZ T L1).length);rw[<-hnW]at HU ⊢;have hs12:W11.heap.size<=w12.heap.size:=HB12.out.size;have HV12:Hid (MdV T w12 mb wk B rv loc (c+cost) (mdF T vm (ae g8 (nE+1) cap8) (ae g9 (nE+1) cap9) vr vx made1 made1 (E++ [⟨loc,kind,old,new,cost⟩]) (E++ [⟨loc,kind,old,new,cost⟩]) xs) ws L1 x (xs++ [.slice ua nW uc]) (X++ [IZ T L1])):=hid ((HVK11.out.1.below HB12.out).addX (w0:=W11) (OK HU.out (by show B<=W11.heap.size;have:=HK011.out.size;omega)) (fun g hg=>(World.ownsRow.lt HU.out g hg).1) (fun j hj g hg=>CK (HVK11.out.1.rows j hj) hg));have HR12:Hid (w12.ownsRow B 30 1 vx nX xs):=hid (A8 HRow10.out (A1.of_below HB12.out []) (fun _ _=>by simp));clear hu hnW;refine tS 11 fun K hK=>?_
 refine tM ?_;go_simp;refine hK.out _ _ ?_ fun hH=>?_
 ·exact⟨A2 _ hH.1,A2 _ hH.2⟩
 clear hK K;refine tL ?_;refine tS 12 fun K hK=>?_
 refine tM ?_;rw[if_pos (by rfl)];refine wp_append_lies _ (.tmp 75) (.tmp 81) 34 rfl B 30 iR (.slice none 0 0) 1 24 Tryz.underlying34 hiR hzR0 hzR1 hzR2 rfl (by decide) vx _ _ rfl (HR12.out.alloc _) (af w12.heap.size 0) 1 1 [.slice ua nW uc] rfl rfl (World.news_of_block (fr:=(0,0)) (heap_alloc_new w12 _)) y4Z (by omega) y3Z (by omega) (by have:=HK011.out.size;simp;omega) _ rfl ?_;intro g13 cap13 w13 hown hgrow hat hlt2;refine hK.out _ _ ?_ fun hH=>?_
 ·exact⟨(hgrow.cell_far _ y2Z (by exact ogM10)).trans hH.1,(hgrow.cell_far _ y2Z (by exact ogM10)).trans hH.2⟩
 clear hK K;refine tL ?_;refine tB 13 hH ?_;refine tB 14 hH ?_;refine tB 15 hH ?_;refine tB 16 hH ?_;refine tL ?_;refine wpAnyH_done y1Z ?_ _;clear hH hb5 m10 m4;have happ:=HV12.out.app (f':=mdF T vm (ae g8 (nE+1) cap8) (ae g9 (nE+1) cap9) vr (ae g13 (nX+1) cap13) made1 made1 (E++ [⟨loc,kind,old,new,cost⟩]) (E++ [⟨loc,kind,old,new,cost⟩]) (xs++ [.slice ua nW uc])) (j0:=10) (.inr (.inr (.inr (.inr rfl)))) ((A1.refl w12 []).alloc (.cells #[.slice ua nW uc] 30)) hgrow
  (by
   show w13.ownsRow B 30 1 _ (xs++ [Value.slice ua nW uc]).length (xs++ [Value.slice ua nW uc]);rw[lA,<-HNX.out];exact hown) rfl rfl (N3 hat (by simp)) (fun j hj hne=>by rcases hj with e |e |e |e |e <;> subst e <;> first |exact absurd rfl hne |rfl)
 obtain⟨y1,y2,y3⟩:=happ;have yc:w13.cell? (af mb 10)=some vx:=(A0 y1).trans rfl;have yf:w13.frozen? (af mb 10)=false:=A3 y1;have HY:=hid (And.intro y2 y3);clear y1 y2 y3 hown hgrow hat hlt2;show wpList _ _ _ _ _ _
 go_upto_region 6 with fail
 obtain⟨W14,hW14⟩:=qE (w13.setCell (af mb 10) (ae g13 (nX+1) cap13));have HM14:Hid (MdT T W14 mb wk B rv loc (c+cost) made1 (E++ [⟨loc,kind,old,new,cost⟩]) L1 (X++ [IZ T L1])):=hid ⟨x,⟨_,_,_,_,_,_,_,by rw[<-hW14];exact HY.out.1⟩,HXs.out⟩;have HK14:Hid (AW B w W14):=hid (by rw[<-hW14];exact HK011.out.trans ((AW.of_below HB12.out).trans HY.out.2));have heb14:W14.heap[w.heap.size]?=some (.cells #[ab loc,ab kind,ab old,ab new,ab cost] 92 (0,0)):=by
  have h1:AW B W10 W14:=by rw[<-hW14];exact HVK11.out.2.trans ((AW.of_below HB12.out).trans HY.out.2)
  exact(h1.block _ (lt_of_block HEb10.out) (.inr ⟨_,_,HEb10.out⟩)).trans HEb10.out
 rw[hW14];clear hW14 yc yf HY;have HEb14:=hid heb14;have e1:=(A0 (j:=1) heb14).trans rfl;have e3:=(A0 (j:=3) heb14).trans rfl;have hB14:B<=W14.heap.size:=by have:=HK14.out.size;omega
 clear heb14
 rcases HSt.out with⟨hk,hnT',hsp,ha',hnw⟩ | ⟨hk,hL2,ha',hnw⟩ | ⟨hk,hnT',hsp,ha',hnw⟩
 ·have hk:kind=1:=hk
  have ha':a'=loc:=ha';have hnw:nw=[new]:=hnw;subst hk;subst ha';subst hnw;have HTa:Hid (Calls Tryz.prog 54 #[ac mb,ab new] W14 fun r w'=>r=.returned (.tuple #[])/\MdT T w' mb wk B rv a' (c+cost) (made1++ [new]) (E++ [⟨a',1,old,new,cost⟩]) L2 (X++ [IZ T L1])/\AW B W14 w'):=hid (WM HTk.out.1 (HI.out W14 HK14.out) HTk.out.2 hB14 HM14.out hnT' hsp (by omega));clear hnT' hsp
  go_wp2_with (go_at_call 54;refine HTa.out.mono ?_;rintro r w15 ⟨rfl,hm15,hk15⟩;have H15:=hid (And.intro hm15 hk15);have f1:w15.cell? (af w.heap.size 1)=some (ab 1):=(A0 ((hk15.block _ (lt_of_block HEb14.out) (.inr ⟨_,_,HEb14.out⟩)).trans HEb14.out)).trans rfl;clear hm15 hk15 e1 e3)
  go_end0
  exact⟨rfl,H15.out.1,HK14.out.trans H15.out.2⟩
 ·have hk:kind=2:=hk
  have ha':a'=loc+1:=ha';subst hk;subst ha';subst hnw;subst hL2;obtain⟨_,_,_,_,q5,q6⟩:=HM14.out.blk;have hlw:IntKind.i64.wrap ((loc:Int)+1)=(loc:Int)+1:=by rw[w64];omega
  go_wp2
  go_end0
  obtain⟨z1,z2⟩:=HM14.out.setAt (loc+1);exact⟨rfl,z1,HK14.out.trans z2⟩
 ·have hk:kind=3:=hk
  have ha':a'=loc+1:=ha';have hnw:nw=[new]:=hnw;subst hk;subst ha';subst hnw;have HTa:Hid (Calls Tryz.prog 54 #[ac mb,ab new] W14 fun r w'=>r=.returned (.tuple #[])/\MdT T w' mb wk B rv loc (c+cost) (made1++ [new]) (E++ [⟨loc,3,old,new,cost⟩]) L2 (X++ [IZ T L1])/\AW B W14 w'):=hid (WM HTk.out.1 (HI.out W14 HK14.out) HTk.out.2 hB14 HM14.out hnT' hsp (by omega));have hlw:IntKind.i64.wrap ((loc:Int)+1)=(loc:Int)+1:=by rw[w64];omega
  clear hnT' hsp
  go_wp2_with (go_at_call 54;refine HTa.out.mono ?_;rintro r w15 ⟨rfl,hm15,hk15⟩;have H15:=hid (And.intro hm15 hk15);have f1:w15.cell? (af w.heap.size 1)=some (ab 3):=(A0 ((hk15.block _ (lt_of_block HEb14.out) (.inr ⟨_,_,HEb14.out⟩)).trans HEb14.out)).trans rfl;obtain⟨_,_,_,_,q5,q6⟩:=hm15.blk;clear hm15 hk15 e1 e3)
  go_end0
  obtain⟨z1,z2⟩:=H15.out.1.setAt (loc+1);exact⟨rfl,z1,HK14.out.trans (H15.out.2.trans z2)⟩
end
end
def iB (N:NG) (row:List Nat) (e:EdP) (a':Nat) (nw:List Nat):Prop:=
 (e.kind=1/\e.old=N.nT/\e.new<N.nT/\a'=e.loc/\nw=[e.new])\/(e.kind=2/\row[e.loc]?=some e.old/\e.new=N.nT/\a'=e.loc+1/\nw=[])\/(e.kind=3/\row[e.loc]?=some e.old/\e.new<N.nT/\a'=e.loc+1/\nw=[e.new])
theorem Run.next {N:NG}{i j:Nat}{E:List EdP}{b:List Nat}{c:Nat} (h:Run N row i E j b c):∀{e:EdP}{E':List EdP},E=e::E'->∃(a':Nat) (nw b':List Nat) (c':Nat),i<=e.loc/\e.loc<=j/\b=(row.drop i).take (e.loc - i)++nw++b'/\Run N row a' E' j b' c'/\c=e.cost+c'/\iB N row e a' nw/\Run N row i [e] a' ((row.drop i).take (e.loc - i)++nw) e.cost:=by
 induction h with
 |done i=>intro e E' h;cases h
 | @keep i x j E b c hx h ih=>
  intro e E' hE;obtain⟨a',nw,b',c',h1,h2,h3,h4,h5,h6,h7⟩:=ih hE;have e1:(row.drop i).take (e.loc - i)=x::(row.drop (i+1)).take (e.loc - (i+1)):=by
   obtain⟨hi,ex⟩:=gS_.1 hx;rw[List.drop_eq_getElem_cons hi,show e.loc - i=(e.loc - (i+1))+1 by omega,List.take_succ_cons,ex]
  refine⟨a',nw,b',c',by omega,h2,?_,h4,h5,h6,?_⟩
  ·rw[e1,h3];rfl
  ·rw[e1];exact .keep hx h7
 | @put i t j E b c ht h ih=>
  intro e E' hE;injection hE with h1 h2
  subst h1;subst h2;refine⟨i,[t],b,c,lR_ _,h.le,?_,h,rfl,.inl ⟨rfl,rfl,ht,rfl,rfl⟩,?_⟩
  ·simp
  ·have:=Run.put (N:=N) (row:=row) ht (.done i)
   simp only[Nat.sub_self,List.take_zero,List.nil_append]
   rwa [Nat.add_zero]at this
 | @drop i x j E b c hx h ih=>
  intro e E' hE;injection hE with h1 h2
  subst h1;subst h2;refine⟨i+1,[],b,c,lR_ _,by have:=h.le;show i<=j;omega,?_,h,rfl,.inr (.inl ⟨rfl,hx,rfl,rfl,rfl⟩),?_⟩
  ·simp
  ·have:=Run.drop (N:=N) (row:=row) hx (.done (i+1))
   simp only[Nat.sub_self,List.take_zero,List.nil_append]
   rwa [Nat.add_zero]at this
 | @swap i x u j E b c hx hu hn hs h ih=>
  intro e E' hE;injection hE with h1 h2
  subst h1;subst h2;refine⟨i+1,[u],b,c,lR_ _,by have:=h.le;show i<=j;omega,?_,h,rfl,.inr (.inr ⟨rfl,hx,hu,rfl,rfl⟩),?_⟩
  ·simp
  ·have:=Run.swap (N:=N) (row:=row) hx hu hn hs (.done (i+1))
   simp only[Nat.sub_self,List.take_zero,List.nil_append]
   rwa [Nat.add_zero]at this
theorem LL {rul:Nat->Nat->Option (List Pt)}{L0 Z:List Pt}{x y:List Nat} (h:BF rul L0 (x++y)=some Z):∃L,BF rul L0 x=some L/\BF rul L y=some Z:=by
 rw[FR]at h;cases h1:BF rul L0 x with
 |none=>rw[h1]at h;cases h
 |some L=>rw[h1]at h;exact⟨L,rfl,h⟩
theorem iB.step {T:Tab}{a':Nat}{nw y:List Nat}{L1 Z:List Pt} (h:iB T.N row e a' nw) (hr:BF T.rul L1 (nw++y)=some Z):∃L2,oE T e L1 L2 a' nw/\BF T.rul L1 nw=some L2/\BF T.rul L2 y=some Z:=by
 obtain⟨L2,h1,h2⟩:=LL hr;have one:∀{t:Nat},BF T.rul L1 [t]=some L2->BB T.rul L1 t=some L2:=fun {t} h=>by
  have h:(BB T.rul L1 t).bind (fun s=>some s)=some L2:=h;cases hs:BB T.rul L1 t with
  |none=>rw[hs]at h;cases h
  |some s=>rw[hs]at h;exact h
 refine⟨L2,?_,h1,h2⟩
 rcases h with⟨k1,k2,k3,k4,k5⟩ | ⟨k1,k2,k3,k4,k5⟩ | ⟨k1,k2,k3,k4,k5⟩
 ·exact .inl ⟨k1,k3,one (by rw[<-k5];exact h1),k4,k5⟩
 ·refine .inr (.inl ⟨k1,?_,k4,k5⟩)
  rw[k5]at h1;have h1:some L1=some L2:=h1;injection h1 with h1
  exact h1.symm
 ·exact .inr (.inr ⟨k1,k3,one (by rw[<-k5];exact h1),k4,k5⟩)
theorem Run.len2 {N:NG} (hN:N.Ok) {i j:Nat}{E:List EdP}{b:List Nat}{c:Nat} (h:Run N row i E j b c) (hr:∀x∈row,x<N.nT):b.length+i<=j+c/\E.length<=c:=by
 induction h with
 |done i=>exact⟨by simp,lR_ _⟩
 |keep hx _ ih=>obtain⟨h1,h2⟩:=ih;exact⟨by simp;omega,h2⟩
 |put ht _ ih=>obtain⟨h1,h2⟩:=ih;have:=hN.put1 _ ht;exact⟨by simp;omega,by simp;omega⟩
 |drop hx _ ih=>obtain⟨h1,h2⟩:=ih;have:=hN.drop1 _ (hr _ (mG hx));exact⟨by omega,by simp;omega⟩
 |swap hx hu hn hs _ ih=>obtain⟨h1,h2⟩:=ih;exact⟨by simp;omega,by simp;omega⟩
def OV (T:Tab) (row:List Nat) (E:List EdP) (X:List (List ByteArray)):Prop:=
 ∀(k:Nat) (e:EdP) (x:List ByteArray),E[k]?=some e->X[k]?=some x->∃(b1:List Nat) (c1:Nat) (L:List Pt),Run T.N row 0 (E.take k) e.loc b1 c1/\BF T.rul [.nam 0] b1=some L/\x=IZ T L
theorem OV.snoc {T:Tab}{E0:List EdP}{X:List (List ByteArray)}{b1:List Nat}{c1:Nat}{L:List Pt} (h:OV T row E0 X) (hl:X.length=E0.length) (hr:Run T.N row 0 E0 e.loc b1 c1) (hs:BF T.rul [.nam 0] b1=some L):OV T row (E0++ [e]) (X++ [IZ T L]):=fun k e' x h1 h2=>by
 rcases Nat.lt_or_ge k E0.length with h3 |h3
 ·rw[aL h3]at h1
  rw[aL (by omega)]at h2;rw[List.take_append_of_le_length (by omega)];exact h k e' x h1 h2
 ·have hk:k=E0.length:=by
   have:=(gS_.1 h1).1;simp at this;omega
  subst hk;rw[aR_ (lR_ _),Nat.sub_self]at h1;rw[aR_ (by omega),show E0.length - X.length=0 by omega]at h2;have e1:e=e':=by simpa using h1
  have e2:IZ T L=x:=by simpa using h2
  subst e1;rw[List.take_append_of_le_length (lR_ _),List.take_length];exact⟨b1,c1,L,hr,hs,e2.symm⟩
end Go.Proofs.YtjjggdcnpndgjabGreatDoor
