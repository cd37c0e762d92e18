import Derived.Test.YtjjggdcnpndgjaaGreatDoorHJ40
set_option linter.unusedSimpArgs false
set_option maxHeartbeats 8000000
set_option maxRecDepth 100000
namespace Go.Proofs.YtjjggdcnpndgjaaGreatDoor
open Go.RowKit Go.Shelf
variable {e:ze}{row:List Nat}
section
theorem Tryz.infoE121:(Tryz.prog.info? 121).map (λi=>(i.zero,i.size,i.bytes))=some (some (.agg #[ab 0,ab 0,.string ByteArray.empty,.string ByteArray.empty]),4,48):=by kernel_rfl
theorem Tryz.infoE39:(Tryz.prog.info? 39).map (λi=>(i.zero,i.size,i.bytes))=some (some (.slice none 0 0),1,24):=by kernel_rfl
def pI (T:zn) (e:ze) (L1 L2:List Pt) (a':Nat) (nw:List Nat):Prop:=
 (e.kind=1/\e.new<T.N.nT/\DA T.yN L1 e.new=some L2/\a'=e.loc/\nw=[e.new])\/(e.kind=2/\L2=L1/\a'=e.loc+1/\nw=[])\/(e.kind=3/\e.new<T.N.nT/\DA T.yN L1 e.new=some L2/\a'=e.loc+1/\nw=[e.new])
def L4 (T:zn) (L:List Pt):List ByteArray:=GO T.yL T.N.nT (BA (K8 T L))
section
variable {T:zn}{w:World}{mb wk B a c:Nat}{rv:Value}{made:List Nat}{E:List ze}{L L1 L2:List Pt}{X:List (List ByteArray)}
theorem wG (Dk:T.Ok) {a':Nat}{nw:List Nat} (hI:T.In w) (zW:T.Bd B) (hB:B<=w.heap.size) (Mx:∀V,AV B w V->TabAt 1 Lib.deBruijn32tab V) (h:Df T w mb wk B rv a c made E L X) (hrw:Cw w B rv row) (hrl:∀t∈row,t<T.N.nT) (ha:a<=e.loc) (ha2:e.loc<=row.length) (Gx:row.length<=100)
  (hrun:CQ T.yN L ((row.drop a).take (e.loc - a))=some L1) (hst:pI T e L1 L2 a' nw) (hold:e.old<=T.N.nT) (hnew:e.new<=T.N.nT) (hm:made.length+(e.loc - a)<=9900) (hc:c<=1000000) (Yy:e.cost<=1000000) (hE:E.length<=1000000) (hXl:X.length<=1000000):
  Calls Tryz.prog 95 #[ac mb,.agg #[ab e.loc,ab e.kind,ab e.old,ab e.new,ab e.cost]] w λr w'=>r=.returned (.tuple #[])/\Df T w' mb wk B rv a' (c+e.cost) (made++(row.drop a).take (e.loc - a)++nw) (E++ [e]) L2 (X++ [L4 T L1])/\AV B w w':=by
 obtain⟨iI,Io,Ip,Iq,Ir⟩:=jc Tryz.infoX3;obtain⟨iE,Uz,Yq,Yr,Ys⟩:=jc Tryz.infoE121;obtain⟨iR,Pv,Pw,Px,Py⟩:=jc Tryz.infoE39;have HI:Hid (∀V,AV B w V->T.In V):=hid λV hk=>hI.below zW (hk.below hB)
 have Ab:Hid (T.Ok/\T.Bd B):=hid ⟨Dk,zW⟩;have aes:=hid Mx;have Vd:=hid hst;have aj5:T.tb<B:=zW.tb;obtain⟨loc,kind,old,new,cost⟩:=e;simp only at ha ha2 hrun hold hnew hm Yy ⊢;obtain⟨Eo,acI⟩:=qE (made++(row.drop a).take (loc - a));have hm1:Eo.length<=9900:=by rw[<-acI];simp;omega
 have hloc:loc<=100:=by omega
 rw[acI];obtain⟨W1,hW1⟩:=qE (w.alloc (.cells #[ab loc,ab kind,ab old,ab new,ab cost] 201));have hb1:Below w.heap.size w W1:=by rw[<-hW1];exact(ah _ w).alloc (yF _) _
 have Qw:W1.heap[w.heap.size]?=some (.cells #[ab loc,ab kind,ab old,ab new,ab cost] 201 (0,0)):=by rw[<-hW1];exact ay w _
 have hs1:w.heap.size<W1.heap.size:=ak Qw;have Aa:Hid (AV B w W1):=hid (AV.yX hb1);have HKt:Hid (Calls Tryz.prog 96 #[ac mb,ab loc] W1 λr w'=>r=.returned (.tuple #[])/\Df T w' mb wk B rv loc c Eo E L1 X/\AV B W1 w'):=hid (by
  rw[<-acI];exact VK Dk (HI.out W1 Aa.out) zW (by omega) (h.below hb1) (hrw.below (hb1.mono hB)) hrl ha ha2 Gx hrun (by omega))
 have Fi:=hid hW1;have Uc:=hid Qw;clear hI Dk zW Mx h hrw hrl hrun hst acI hb1 ha ha2 hW1;have c0:W1.cell? (af w.heap.size 0)=some (ab loc):=(A0 Qw).trans rfl
 go_enter Tryz.func95,Tryz.ntmps95
 go_upto_region 1 with fail
 rw[Fi.out]
 go_upto_region 2 with(go_at_call 96;refine HKt.out.mono ?_;rintro r w2 ⟨rfl,hm2,hk2⟩;have HM2:=hid hm2;have Fc:Hid (AV B W1 w2):=hid hk2;clear hm2 hk2)
 obtain⟨x,⟨vm,ve,vc,vr,vx,ws,xs,hv2⟩,hx,hLl,hps⟩:=HM2.out;have hs2:W1.heap.size<=w2.heap.size:=Fc.out.size;have aet:AV B w w2:=Aa.out.trans Fc.out;have Za:w2.heap[w.heap.size]?=some (.cells #[ab loc,ab kind,ab old,ab new,ab cost] 201 (0,0)):=(Fc.out.block _ hs1 (.inr ⟨_,_,Uc.out⟩)).trans Uc.out;have Gi:=HI.out w2 aet;obtain⟨d0,d1,_⟩:=Gi.tv.Ar;have Jf:Hid (∀V u,Below w2.heap.size w2 V->u<=T.N.nT->Calls Tryz.prog 129 #[.agg #[.slice T.yu T.N.nT T.yl,ae T.gN T.N.nN T.xY],ab (u:Nat)] V λr w'=>r=.returned (.string (CV T.yL T.N.nT u))/\Below V.heap.size V w'):=hid λV u zR hu=>by
  have Vg:=Gi.below Gi.bd zR;exact P9 V T.n0 T.N T.yL T.pg T.yu T.yl T.gN T.xY Vg.fc.gr Vg.fc.ln u hu
 have HWo:Hid (∀V,Below w2.heap.size w2 V->Calls Tryz.prog 129 #[.agg #[.slice T.yu T.N.nT T.yl,ae T.gN T.N.nN T.xY],ab old] V λr w'=>r=.returned (.string (CV T.yL T.N.nT old))/\Below V.heap.size V w'):=hid λV zR=>Jf.out V old zR hold
 have HWn:Hid (∀V,Below w2.heap.size w2 V->Calls Tryz.prog 129 #[.agg #[.slice T.yu T.N.nT T.yl,ae T.gN T.N.nN T.xY],ab new] V λr w'=>r=.returned (.string (CV T.yL T.N.nT new))/\Below V.heap.size V w'):=hid λV zR=>Jf.out V new zR hnew
 obtain⟨wo,hwo⟩:=qE (CV T.yL T.N.nT old);obtain⟨wn,hwn⟩:=qE (CV T.yL T.N.nT new);obtain⟨nT,zo⟩:=qF (T.N.nT);obtain⟨nN,yY⟩:=qF (T.N.nN);rw[hwo,<-zo,<-yY]at HWo;rw[hwn,<-zo,<-yY]at HWn;rw[<-zo]at d0;rw[<-yY]at d1;have HWE:Hid (CV T.yL T.N.nT old=wo/\CV T.yL T.N.nT new=wn):=hid ⟨hwo,hwn⟩;have e0:=(A0 (j:=0) Za).trans rfl;have e1:=(A0 (j:=1) Za).trans rfl;have e2:=(A0 (j:=2) Za).trans rfl;have e3:=(A0 (j:=3) Za).trans rfl;have m0:w2.cell? (af mb 0)=some (ac T.tb):=(A0 hv2.blk).trans rfl;have m5:w2.cell? (af mb 5)=some ve:=(A0 hv2.blk).trans rfl;obtain⟨nE,Vh⟩:=qF (E.length);rw[<-Vh]at hE;have Sh:w2.ownsRow B 121 4 ve nE (E.flatMap (Lb T)):=by rw[Vh];exact hv2.rows 5 (.inr (.inl rfl))
 have ogM:some mb≠ve.ownBlock:=λe=>A5 Sh hv2.blk (by decide) e.symm
 have ogE:some w.heap.size≠ve.ownBlock:=λe=>A5 Sh Za (by decide) e.symm
 have Qz:some T.tb≠ve.ownBlock:=λe=>by have:=(Sh.lt _ e.symm).1;omega
 have alZ:mb<w2.heap.size:=hv2.Tb;have Er:=hid hv2;have abd:=hid Sh;have aeu:=hid Za;have adO:=hid aet;have Qx:=hid Vh;have HXs:Hid (x<=2*Eo.length/\L1.length<=7*Eo.length+1/\B3 T.N L1):=hid ⟨hx,hLl,hps⟩;clear hv2 Sh Za aet Vh hx hLl hps Gi hwo hwn zo yY Jf c0;refine GZ (λw'=>(w'.cell? (af w.heap.size 0)=some (ab loc)/\w'.cell? (af w.heap.size 1)=some (ab kind)/\w'.cell? (af w.heap.size 2)=some (ab old)/\w'.cell? (af w.heap.size 3)=some (ab new))/\w'.cell? (af mb 0)=some (ac T.tb)/\w'.cell? (af mb 5)=some ve/\w'.cell? (af T.tb 0)=some (.slice T.yu nT T.yl)/\w'.cell? (af T.tb 1)=some (ae T.gN nN T.xY)) hmx yg ⟨⟨e0,e1,e2,e3⟩,m0,m5,d0,d1⟩ (λhH=>?_);simp only[AB,BM,AO];refine tB 0 hH ?_;refine tB 1 hH ?_;refine tB 2 hH ?_;refine tB 3 hH ?_;refine tB 4 hH ?_;refine tB 5 hH ?_;refine tB 6 hH ?_;refine tB 7 hH ?_;refine tB 8 hH ?_;refine tB 9 hH ?_;refine tB 10 hH ?_
 refine tB 11 hH ?_;refine tB 12 hH ?_;refine tB 13 hH ?_;refine tB 14 hH ?_;refine tB 15 hH ?_;refine tB 16 hH ?_;refine tB 17 hH ?_;refine tB 18 hH ?_;refine tB 19 hH ?_;refine tB 21 hH ?_;refine tB 22 hH ?_;refine tB 23 hH ?_;refine tB 24 hH ?_;refine tB 25 hH ?_;refine tB 26 hH ?_;refine tB 27 hH ?_;refine tB 28 hH ?_;refine tB 29 hH ?_;refine tB 30 hH ?_;refine tL ?_;refine tS 20 λK hK=>?_
 refine tM ?_
 go_simp;refine(HWo.out _ (ah _ w2).drew).mono ?_;rintro r w5 ⟨rfl,yT⟩;try dsimp only
 refine hK.out _ _ ?_ λhH=>?_
 ·exact⟨⟨A4 yT hH.1.1,A4 yT hH.1.2.1,A4 yT hH.1.2.2.1,A4 yT hH.1.2.2.2⟩,A4 yT hH.2.1,A4 yT hH.2.2.1,A4 yT hH.2.2.2.1,A4 yT hH.2.2.2.2⟩
 clear hK K;refine tL ?_;have zI:Hid (Below w2.heap.size w2 w5):=hid ((ah _ w2).drew.trans yT);refine tS 31 λK hK=>?_
 refine tM ?_
 go_simp;refine(HWn.out _ zI.out).mono ?_;rintro r w6 ⟨rfl,yZ⟩;try dsimp only
 refine hK.out _ _ ?_ λhH=>?_
 ·exact⟨⟨A4 yZ hH.1.1,A4 yZ hH.1.2.1,A4 yZ hH.1.2.2.1,A4 yZ hH.1.2.2.2⟩,A4 yZ hH.2.1,A4 yZ hH.2.2.1,A4 yZ hH.2.2.2.1,A4 yZ hH.2.2.2.2⟩
 clear hK K;refine tL ?_;have Co:Hid (Below w2.heap.size w2 w6):=hid (zI.out.trans (yZ.mono zI.out.size));refine tB 32 hH ?_;refine tL ?_;refine tS 33 λK hK=>?_
 refine tM ?_;go_simp;refine hK.out _ _ ?_ λhH=>?_
 ·exact⟨⟨A2 _ hH.1.1,A2 _ hH.1.2.1,A2 _ hH.1.2.2.1,A2 _ hH.1.2.2.2⟩,A2 _ hH.2.1,A2 _ hH.2.2.1,A2 _ hH.2.2.2.1,A2 _ hH.2.2.2.2⟩
 clear hK K;refine tL ?_;have Uf:w2.heap.size<=w6.heap.size:=Co.out.size;have HR6:Hid (w6.ownsRow B 121 4 ve nE (E.flatMap (Lb T))):=hid (A7 abd.out (A1.yX Co.out []) (λ_ _=>by simp));refine tS 34 λK hK=>?_
 refine tM ?_;rw[aq (by rfl)];refine mz _ (.tmp 13) (.tmp 41) 44 rfl B 121 iE (.agg #[ab 0,ab 0,.string ByteArray.empty,.string ByteArray.empty]) 4 48 Tryz.underlying44 Uz Yq Yr Ys rfl (by decide) ve _ _ rfl (HR6.out.alloc _) (af w6.heap.size 0) 1 1 [ab loc,ab kind,.string wo,.string wn] rfl rfl (dh (fr:=(0,0)) (dw w6 _)) Fb (by omega) zX (by omega) yM _ rfl ?_;intro g8 Ju w7 hown hgrow hat Bv;refine hK.out _ _ ?_ λhH=>?_
 ·exact⟨⟨(hgrow.cell_far _ yM (by exact ogE)).trans hH.1.1,(hgrow.cell_far _ yM (by exact ogE)).trans hH.1.2.1,(hgrow.cell_far _ yM (by exact ogE)).trans hH.1.2.2.1,(hgrow.cell_far _ yM (by exact ogE)).trans hH.1.2.2.2⟩,(hgrow.cell_far _ yM (by exact ogM)).trans hH.2.1,(hgrow.cell_far _ yM (by exact ogM)).trans hH.2.2.1,(hgrow.cell_far _ yM Na).trans hH.2.2.2.1,(hgrow.cell_far _ yM Na).trans hH.2.2.2.2⟩
 clear hK K;refine tL ?_;refine tB 35 hH ?_;refine tB 36 hH ?_;refine tB 37 hH ?_;refine tB 38 hH ?_;refine tL ?_;refine bk yg ?_ _;clear hH yT yZ e0 e1 e2 e3 m0 m5 d0 d1;have happ:=(Er.out.below Co.out).app (f':=Jt T vm (ae g8 (nE+1) Ju) vc vr vx Eo Eo (E++ [⟨loc,kind,old,new,cost⟩]) E xs) (j0:=5) (.inr (.inl rfl)) ((A1.refl w6 []).alloc (.cells #[ab loc,ab kind,.string wo,.string wn] 121)) hgrow
  (by
   show w7.ownsRow B 121 4 _ (E++ [(⟨loc,kind,old,new,cost⟩:ze)]).length ((E++ [(⟨loc,kind,old,new,cost⟩:ze)]).flatMap (Lb T));have e:(E++ [(⟨loc,kind,old,new,cost⟩:ze)]).flatMap (Lb T)=E.flatMap (Lb T)++ [ab loc,ab kind,.string wo,.string wn]:=by rw[mg,<-HWE.out.1,<-HWE.out.2];rfl
   rw[lA,e,<-Qx.out];exact hown) rfl rfl (N5 hat (by simp)) (λj hj hne=>by rcases hj with e |e |e |e |e <;> subst e <;> first |exact absurd rfl hne |rfl)
 obtain⟨y1,y2,y3⟩:=happ;have yc:w7.cell? (af mb 5)=some ve:=(A0 y1).trans rfl;have yf:w7.frozen? (af mb 5)=false:=A3 y1;have HY:=hid (And.intro y2 y3);clear y1 y2 y3 hown hgrow hat Bv;show wpList _ _ _ _ _ _
 go_upto_region 3 with fail
 obtain⟨W8,Mm⟩:=qE (w7.setCell (af mb 5) (ae g8 (nE+1) Ju));have Hv:Hid (At T W8 mb wk B rv loc c (Jt T vm (ae g8 (nE+1) Ju) vc vr vx Eo Eo (E++ [⟨loc,kind,old,new,cost⟩]) E xs) ws L1 x xs X):=hid (by rw[<-Mm];exact HY.out.1);have Ol:Hid (AV B w2 W8):=hid (by rw[<-Mm];exact(AV.yX Co.out).trans HY.out.2);rw[Mm];clear Mm yc yf HY;have hs8:=Ol.out.size;have acJ:W8.heap[w.heap.size]?=some (.cells #[ab loc,ab kind,ab old,ab new,ab cost] 201 (0,0)):=(Ol.out.block _ (ak aeu.out) (.inr ⟨_,_,aeu.out⟩)).trans aeu.out;have e4:=(A0 (j:=4) acJ).trans rfl;have m6:W8.cell? (af mb 6)=some vc:=(A0 Hv.out.blk).trans rfl;have Ta:W8.ownsRow B 3 1 vc nE (D8 (E.map (·.cost))):=by rw[Qx.out];exact Hv.out.rows 6 (.inr (.inr (.inl rfl)))
 have aj6:some mb≠vc.ownBlock:=λe=>A5 Ta Hv.out.blk (by decide) e.symm
 have aj7:some w.heap.size≠vc.ownBlock:=λe=>A5 Ta acJ (by decide) e.symm
 have acH:=hid Ta;have aev:=hid acJ;have aj8:mb<W8.heap.size:=Hv.out.Tb;clear acJ Ta;have aj9:w.heap.size<W8.heap.size:=ak aev.out;refine GZ (λw'=>w'.cell? (af w.heap.size 4)=some (ab cost)/\w'.cell? (af mb 6)=some vc) hmx yg ⟨e4,m6⟩ (λhH=>?_);simp only[AB,BM,AO];refine tB 0 hH ?_;refine tB 1 hH ?_;refine tB 2 hH ?_;refine tB 3 hH ?_;refine tB 4 hH ?_;refine tB 5 hH ?_;refine tB 6 hH ?_;refine tB 7 hH ?_;refine tL ?_;refine tS 8 λK hK=>?_
 refine tM ?_;go_simp;refine hK.out _ _ ?_ λhH=>?_
 ·exact⟨A2 _ hH.1,A2 _ hH.2⟩
 clear hK K;refine tL ?_;refine tS 9 λK hK=>?_
 refine tM ?_;rw[aq (by rfl)];refine mz _ (.tmp 51) (.tmp 54) 45 rfl B 3 iI (ab 0) 1 8 Tryz.underlying45 Io Ip Iq Ir rfl (by decide) vc _ _ rfl (acH.out.alloc _) (af W8.heap.size 0) 1 1 [ab cost] rfl rfl (dh (fr:=(0,0)) (dw W8 _)) Fb (by omega) zX (by omega) yM _ rfl ?_;intro g9 Jq w9 hown hgrow hat Bv;refine hK.out _ _ ?_ λhH=>?_
 ·exact⟨(hgrow.cell_far _ yM (by exact aj7)).trans hH.1,(hgrow.cell_far _ yM (by exact aj6)).trans hH.2⟩
 clear hK K;refine tL ?_;refine tB 10 hH ?_;refine tB 11 hH ?_;refine tB 12 hH ?_;refine tB 13 hH ?_;refine tL ?_;refine bk yg ?_ _;clear hH m6;have happ:=Hv.out.app (f':=Jt T vm (ae g8 (nE+1) Ju) (ae g9 (nE+1) Jq) vr vx Eo Eo (E++ [⟨loc,kind,old,new,cost⟩]) (E++ [⟨loc,kind,old,new,cost⟩]) xs) (j0:=6) (.inr (.inr (.inl rfl))) (((A1.refl W8 []).alloc (.cells #[ab cost] 3)).drew) hgrow
  (by
   show w9.ownsRow B 3 1 _ (E++ [(⟨loc,kind,old,new,cost⟩:ze)]).length (D8 ((E++ [(⟨loc,kind,old,new,cost⟩:ze)]).map (·.cost)));rw[lA,ew,GK,<-Qx.out];exact hown) rfl rfl (N5 hat (by simp)) (λj hj hne=>by rcases hj with e |e |e |e |e <;> subst e <;> first |exact absurd rfl hne |rfl)
 obtain⟨y1,y2,y3⟩:=happ;have yc:w9.cell? (af mb 6)=some vc:=(A0 y1).trans rfl;have yf:w9.frozen? (af mb 6)=false:=A3 y1;have HY:=hid (And.intro y2 y3);clear y1 y2 y3 hown hgrow hat Bv;show wpList _ _ _ _ _ _
 go_upto_region 4 with fail
 obtain⟨Jp,Xu⟩:=qE (w9.setCell (af mb 6) (ae g9 (nE+1) Jq));have aew:Hid (At T Jp mb wk B rv loc c (Jt T vm (ae g8 (nE+1) Ju) (ae g9 (nE+1) Jq) vr vx Eo Eo (E++ [⟨loc,kind,old,new,cost⟩]) (E++ [⟨loc,kind,old,new,cost⟩]) xs) ws L1 x xs X):=hid (by rw[<-Xu];exact HY.out.1);have aex:Hid (AV B W8 Jp):=hid (by rw[<-Xu];exact HY.out.2);rw[Xu];clear Xu yc yf HY e4;have al0:=aex.out.size;have aey:Jp.heap[w.heap.size]?=some (.cells #[ab loc,ab kind,ab old,ab new,ab cost] 201 (0,0)):=(aex.out.block _ aj9 (.inr ⟨_,_,aev.out⟩)).trans aev.out;have e4:=(A0 (j:=4) aey).trans rfl;have m7:Jp.cell? (af mb 7)=some (ab c):=(A0 aew.out.blk).trans rfl;have z7:Jp.frozen? (af mb 7)=false:=A3 aew.out.blk;have hcw:IntKind.i64.wrap ((c:Int)+(cost:Int))=(c:Int)+(cost:Int):=by rw[Cy];omega
 have aez:=hid aey;clear aey;refine GZ (λw'=>w'.cell? (af w.heap.size 4)=some (ab cost)/\w'.cell? (af mb 7)=some (ab c)) hmx yg ⟨e4,m7⟩ (λhH=>?_);simp only[AB,BM,AO];refine tB 0 hH ?_;refine tB 1 hH ?_;refine tB 2 hH ?_;refine tB 3 hH ?_;refine tB 4 hH ?_;refine tB 5 hH ?_;refine tB 6 hH ?_;refine tB 7 hH ?_;refine tB 8 hH ?_;refine tB 9 hH ?_;refine tB 10 hH ?_;refine tB 11 hH ?_;refine tL ?_;refine bk yg ?_ _;clear hH;show wpList _ _ _ _ _ _
 go_upto_region 5 with fail
 obtain⟨Ay,aeA⟩:=qE ((Jp.setCell (af mb 7) (ab ((c:Int)+(cost:Int)))).drew);have My:Hid (At T Ay mb wk B rv loc (c+cost) (Jt T vm (ae g8 (nE+1) Ju) (ae g9 (nE+1) Jq) vr vx Eo Eo (E++ [⟨loc,kind,old,new,cost⟩]) (E++ [⟨loc,kind,old,new,cost⟩]) xs) ws L1 x xs X/\AV B Jp Ay):=hid (by
  rw[<-aeA];obtain⟨z1,z2⟩:=aew.out.aj2 (c+cost);exact⟨z1.below (ah _ _).drew,z2.trans (AV.yX (ah _ _).drew)⟩)
 rw[aeA];clear aeA e4 m7 z7;have al1:=My.out.2.size;have ag1:AV B w Ay:=adO.out.trans (Ol.out.trans (aex.out.trans My.out.2));have abw:=hid ag1;have aka:Hid (∀V,Below Ay.heap.size Ay V->Calls Tryz.prog 148 #[ac wk] V λr w'=>∃u,r=.returned u/\DO w' V.heap.size u (L4 T L1)/\Below V.heap.size V w'):=hid λV zR=>ZN Ab.out.1 (HI.out V (abw.out.trans (AV.yX zR))) (aes.out V (abw.out.trans (AV.yX zR))) (My.out.1.below zR).Gz (by have:=HXs.out.2.1;omega) HXs.out.2.2
 have m10:Ay.cell? (af mb 10)=some vx:=(A0 My.out.1.blk).trans rfl;have m4:Ay.cell? (af mb 4)=some (ac wk):=(A0 My.out.1.blk).trans rfl;obtain⟨nX,hnX⟩:=qF (xs.length);have al2:nX<=1000000:=by rw[hnX,<-My.out.1.len];exact hXl
 have aeB:Ay.ownsRow B 39 1 vx nX xs:=by rw[hnX];exact My.out.1.rows 10 (.inr (.inr (.inr (.inr rfl))))
 have ag2:some mb≠vx.ownBlock:=λe=>A5 aeB My.out.1.blk (by decide) e.symm
 have al3:mb<Ay.heap.size:=My.out.1.Tb;have akb:=hid aeB;have HNX:=hid hnX;clear ag1 hnX aeB;refine GZ (λw'=>w'.cell? (af mb 10)=some vx/\w'.cell? (af mb 4)=some (ac wk)) hmx yg ⟨m10,m4⟩ (λhH=>?_);simp only[AB,BM,AO];refine tB 0 hH ?_;refine tB 1 hH ?_;refine tB 2 hH ?_;refine tB 3 hH ?_;refine tB 4 hH ?_;refine tB 5 hH ?_;refine tB 6 hH ?_;refine tB 7 hH ?_;refine tB 8 hH ?_;refine tB 9 hH ?_;refine tL ?_;refine tS 10 λK hK=>?_
 refine tM ?_
 go_simp;refine(aka.out _ (ah _ Ay).drew).mono ?_;rintro r Zb ⟨u,rfl,hu,yT⟩;obtain⟨ua,uc,rfl⟩:=BB hu;try dsimp only
 refine hK.out _ _ ?_ λhH=>?_
 ·exact⟨A4 yT hH.1,A4 yT hH.2⟩
 clear hK K;refine tL ?_;have abx:Hid (Below Ay.heap.size Ay Zb):=hid ((ah _ Ay).drew.trans yT);have HU:=hid hu;obtain⟨nW,hnW⟩:=qF ((L4 T L1).length);rw[<-hnW]at HU ⊢;have al4:Ay.heap.size<=Zb.heap.size:=abx.out.size;have akc:Hid (At T Zb mb wk B rv loc (c+cost) (Jt T vm (ae g8 (nE+1) Ju) (ae g9 (nE+1) Jq) vr vx Eo Eo (E++ [⟨loc,kind,old,new,cost⟩]) (E++ [⟨loc,kind,old,new,cost⟩]) xs) ws L1 x (xs++ [.slice ua nW uc]) (X++ [L4 T L1])):=hid ((My.out.1.below abx.out).aj3 (w0:=Ay) (O6 HU.out (by show B<=Ay.heap.size;have:=abw.out.size;omega)) (λg hg=>(World.ownsRow.lt HU.out g hg).1) (λj hj g hg=>CJ (My.out.1.rows j hj) hg));have akd:Hid (Zb.ownsRow B 39 1 vx nX xs):=hid (A7 akb.out (A1.yX abx.out []) (λ_ _=>by simp));clear hu hnW;refine tS 11 λK hK=>?_
 refine tM ?_;go_simp;refine hK.out _ _ ?_ λhH=>?_
 ·exact⟨A2 _ hH.1,A2 _ hH.2⟩
 clear hK K;refine tL ?_;refine tS 12 λK hK=>?_
 refine tM ?_;rw[aq (by rfl)];refine mz _ (.tmp 75) (.tmp 81) 46 rfl B 39 iR (.slice none 0 0) 1 24 Tryz.underlying46 Pv Pw Px Py rfl (by decide) vx _ _ rfl (akd.out.alloc _) (af Zb.heap.size 0) 1 1 [.slice ua nW uc] rfl rfl (dh (fr:=(0,0)) (dw Zb _)) Fb (by omega) zX (by omega) (by have:=abw.out.size;simp;omega) _ rfl ?_;intro g13 ag3 w13 hown hgrow hat Bv;refine hK.out _ _ ?_ λhH=>?_
 ·exact⟨(hgrow.cell_far _ yM (by exact ag2)).trans hH.1,(hgrow.cell_far _ yM (by exact ag2)).trans hH.2⟩
 clear hK K;refine tL ?_;refine tB 13 hH ?_;refine tB 14 hH ?_;refine tB 15 hH ?_;refine tB 16 hH ?_;refine tL ?_;refine bk yg ?_ _;clear hH yT m10 m4;have happ:=akc.out.app (f':=Jt T vm (ae g8 (nE+1) Ju) (ae g9 (nE+1) Jq) vr (ae g13 (nX+1) ag3) Eo Eo (E++ [⟨loc,kind,old,new,cost⟩]) (E++ [⟨loc,kind,old,new,cost⟩]) (xs++ [.slice ua nW uc])) (j0:=10) (.inr (.inr (.inr (.inr rfl)))) ((A1.refl Zb []).alloc (.cells #[.slice ua nW uc] 39)) hgrow
  (by
   show w13.ownsRow B 39 1 _ (xs++ [Value.slice ua nW uc]).length (xs++ [Value.slice ua nW uc]);rw[lA,<-HNX.out];exact hown) rfl rfl (N5 hat (by simp)) (λj hj hne=>by rcases hj with e |e |e |e |e <;> subst e <;> first |exact absurd rfl hne |rfl)
 obtain⟨y1,y2,y3⟩:=happ;have yc:w13.cell? (af mb 10)=some vx:=(A0 y1).trans rfl;have yf:w13.frozen? (af mb 10)=false:=A3 y1;have HY:=hid (And.intro y2 y3);clear y1 y2 y3 hown hgrow hat Bv;show wpList _ _ _ _ _ _
 go_upto_region 6 with fail
 obtain⟨He,Vi⟩:=qE (w13.setCell (af mb 10) (ae g13 (nX+1) ag3));have acK:Hid (Df T He mb wk B rv loc (c+cost) Eo (E++ [⟨loc,kind,old,new,cost⟩]) L1 (X++ [L4 T L1])):=hid ⟨x,⟨_,_,_,_,_,_,_,by rw[<-Vi];exact HY.out.1⟩,HXs.out⟩;have aav:Hid (AV B w He):=hid (by rw[<-Vi];exact abw.out.trans ((AV.yX abx.out).trans HY.out.2));have acL:He.heap[w.heap.size]?=some (.cells #[ab loc,ab kind,ab old,ab new,ab cost] 201 (0,0)):=by
  have h1:AV B Jp He:=by rw[<-Vi];exact My.out.2.trans ((AV.yX abx.out).trans HY.out.2)
  exact(h1.block _ (ak aez.out) (.inr ⟨_,_,aez.out⟩)).trans aez.out
 rw[Vi];clear Vi yc yf HY;have aaw:=hid acL;have e1:=(A0 (j:=1) acL).trans rfl;have e3:=(A0 (j:=3) acL).trans rfl;have ag4:B<=He.heap.size:=by have:=aav.out.size;omega
 clear acL
 rcases Vd.out with⟨hk,aby,hsp,ha',Tc⟩ | ⟨hk,hL2,ha',Tc⟩ | ⟨hk,aby,hsp,ha',Tc⟩
 ·have hk:kind=1:=hk
  have ha':a'=loc:=ha';have Tc:nw=[new]:=Tc;subst hk;subst ha';subst Tc;have Yx:Hid (Calls Tryz.prog 149 #[ac mb,ab new] He λr w'=>r=.returned (.tuple #[])/\Df T w' mb wk B rv a' (c+cost) (Eo++ [new]) (E++ [⟨a',1,old,new,cost⟩]) L2 (X++ [L4 T L1])/\AV B He w'):=hid (WI Ab.out.1 (HI.out He aav.out) Ab.out.2 ag4 acK.out aby hsp (by omega));clear aby hsp
  go_wp2_with (go_at_call 149;refine Yx.out.mono ?_;rintro r w15 ⟨rfl,aax,Zc⟩;have Oo:=hid (And.intro aax Zc);have f1:w15.cell? (af w.heap.size 1)=some (ab 1):=(A0 ((Zc.block _ (ak aaw.out) (.inr ⟨_,_,aaw.out⟩)).trans aaw.out)).trans rfl;clear aax Zc e1 e3)
  go_end0
  exact⟨rfl,Oo.out.1,aav.out.trans Oo.out.2⟩
 ·have hk:kind=2:=hk
  have ha':a'=loc+1:=ha';subst hk;subst ha';subst Tc;subst hL2;obtain⟨_,_,_,_,q5,q6⟩:=acK.out.blk;have Ad:IntKind.i64.wrap ((loc:Int)+1)=(loc:Int)+1:=by rw[Cy];omega
  go_wp2
  go_end0
  obtain⟨z1,z2⟩:=acK.out.setAt (loc+1);exact⟨rfl,z1,aav.out.trans z2⟩
 ·have hk:kind=3:=hk
  have ha':a'=loc+1:=ha';have Tc:nw=[new]:=Tc;subst hk;subst ha';subst Tc;have Yx:Hid (Calls Tryz.prog 149 #[ac mb,ab new] He λr w'=>r=.returned (.tuple #[])/\Df T w' mb wk B rv loc (c+cost) (Eo++ [new]) (E++ [⟨loc,3,old,new,cost⟩]) L2 (X++ [L4 T L1])/\AV B He w'):=hid (WI Ab.out.1 (HI.out He aav.out) Ab.out.2 ag4 acK.out aby hsp (by omega));have Ad:IntKind.i64.wrap ((loc:Int)+1)=(loc:Int)+1:=by rw[Cy];omega
  clear aby hsp
  go_wp2_with (go_at_call 149;refine Yx.out.mono ?_;rintro r w15 ⟨rfl,aax,Zc⟩;have Oo:=hid (And.intro aax Zc);have f1:w15.cell? (af w.heap.size 1)=some (ab 3):=(A0 ((Zc.block _ (ak aaw.out) (.inr ⟨_,_,aaw.out⟩)).trans aaw.out)).trans rfl;obtain⟨_,_,_,_,q5,q6⟩:=aax.blk;clear aax Zc e1 e3)
  go_end0
  obtain⟨z1,z2⟩:=Oo.out.1.setAt (loc+1);exact⟨rfl,z1,aav.out.trans (Oo.out.2.trans z2)⟩
end
end
def jA (N:NG) (row:List Nat) (e:ze) (a':Nat) (nw:List Nat):Prop:=
 (e.kind=1/\e.old=N.nT/\e.new<N.nT/\a'=e.loc/\nw=[e.new])\/(e.kind=2/\row[e.loc]?=some e.old/\e.new=N.nT/\a'=e.loc+1/\nw=[])\/(e.kind=3/\row[e.loc]?=some e.old/\e.new<N.nT/\a'=e.loc+1/\nw=[e.new])
theorem za.next {N:NG}{i j:Nat}{E:List ze}{b:List Nat}{c:Nat} (h:za N row i E j b c):∀{e:ze}{E':List ze},E=e::E'->∃(a':Nat) (nw b':List Nat) (c':Nat),i<=e.loc/\e.loc<=j/\b=(row.drop i).take (e.loc - i)++nw++b'/\za N row a' E' j b' c'/\c=e.cost+c'/\jA N row e a' nw/\za N row i [e] a' ((row.drop i).take (e.loc - i)++nw) e.cost:=by
 induction h with
 |done i=>intro e E' h;cases h
 | @keep i x j E b c hx h ih=>
  intro e E' hE;obtain⟨a',nw,b',c',h1,h2,h3,h4,h5,h6,h7⟩:=ih hE;have e1:(row.drop i).take (e.loc - i)=x::(row.drop (i+1)).take (e.loc - (i+1)):=by
   obtain⟨hi,ex⟩:=yS.1 hx;rw[gm hi,show e.loc - i=(e.loc - (i+1))+1 by omega,qw,ex]
  refine⟨a',nw,b',c',by omega,h2,?_,h4,h5,h6,?_⟩
  ·rw[e1,h3];rfl
  ·rw[e1];exact .keep hx h7
 | @put i t j E b c ht h ih=>
  intro e E' hE;injection hE with h1 h2
  subst h1;subst h2;refine⟨i,[t],b,c,yF _,h.le,?_,h,rfl,.inl ⟨rfl,rfl,ht,rfl,rfl⟩,?_⟩
  ·simp
  ·have:=za.put (N:=N) (row:=row) ht (.done i)
   simp only[kq,uf,eu]
   rwa [ug]at this
 | @drop i x j E b c hx h ih=>
  intro e E' hE;injection hE with h1 h2
  subst h1;subst h2;refine⟨i+1,[],b,c,yF _,by have:=h.le;show i<=j;omega,?_,h,rfl,.inr (.inl ⟨rfl,hx,rfl,rfl,rfl⟩),?_⟩
  ·simp
  ·have:=za.drop (N:=N) (row:=row) hx (.done (i+1))
   simp only[kq,uf,eu]
   rwa [ug]at this
 | @swap i x u j E b c hx hu hn hs h ih=>
  intro e E' hE;injection hE with h1 h2
  subst h1;subst h2;refine⟨i+1,[u],b,c,yF _,by have:=h.le;show i<=j;omega,?_,h,rfl,.inr (.inr ⟨rfl,hx,hu,rfl,rfl⟩),?_⟩
  ·simp
  ·have:=za.swap (N:=N) (row:=row) hx hu hn hs (.done (i+1))
   simp only[kq,uf,eu]
   rwa [ug]at this
theorem NZ {yN:Nat->Nat->Option (List Pt)}{L0 Z:List Pt}{x y:List Nat} (h:CQ yN L0 (x++y)=some Z):∃L,CQ yN L0 x=some L/\CQ yN L y=some Z:=by
 rw[IW]at h;cases h1:CQ yN L0 x with
 |none=>rw[h1]at h;cases h
 |some L=>rw[h1]at h;exact⟨L,rfl,h⟩
theorem jA.step {T:zn}{a':Nat}{nw y:List Nat}{L1 Z:List Pt} (h:jA T.N row e a' nw) (hr:CQ T.yN L1 (nw++y)=some Z):∃L2,pI T e L1 L2 a' nw/\CQ T.yN L1 nw=some L2/\CQ T.yN L2 y=some Z:=by
 obtain⟨L2,h1,h2⟩:=NZ hr;have one:∀{t:Nat},CQ T.yN L1 [t]=some L2->DA T.yN L1 t=some L2:=λ{t} h=>by
  have h:(DA T.yN L1 t).bind (λs=>some s)=some L2:=h;cases hs:DA T.yN L1 t with
  |none=>rw[hs]at h;cases h
  |some s=>rw[hs]at h;exact h
 refine⟨L2,?_,h1,h2⟩
 rcases h with⟨k1,k2,k3,k4,k5⟩ | ⟨k1,k2,k3,k4,k5⟩ | ⟨k1,k2,k3,k4,k5⟩
 ·exact .inl ⟨k1,k3,one (by rw[<-k5];exact h1),k4,k5⟩
 ·refine .inr (.inl ⟨k1,?_,k4,k5⟩)
  rw[k5]at h1;have h1:some L1=some L2:=h1;injection h1 with h1
  exact h1.symm
 ·exact .inr (.inr ⟨k1,k3,one (by rw[<-k5];exact h1),k4,k5⟩)
theorem za.ag5 {N:NG} (hN:N.Ok) {i j:Nat}{E:List ze}{b:List Nat}{c:Nat} (h:za N row i E j b c) (hr:∀x∈row,x<N.nT):b.length+i<=j+c/\E.length<=c:=by
 induction h with
 |done i=>exact⟨by simp,yF _⟩
 |keep hx _ ih=>obtain⟨h1,h2⟩:=ih;exact⟨by simp;omega,h2⟩
 |put ht _ ih=>obtain⟨h1,h2⟩:=ih;have:=hN.Tm _ ht;exact⟨by simp;omega,by simp;omega⟩
 |drop hx _ ih=>obtain⟨h1,h2⟩:=ih;have:=hN.aai _ (hr _ (mG hx));exact⟨by omega,by simp;omega⟩
 |swap hx hu hn hs _ ih=>obtain⟨h1,h2⟩:=ih;exact⟨by simp;omega,by simp;omega⟩
def Q5 (T:zn) (row:List Nat) (E:List ze) (X:List (List ByteArray)):Prop:=
 ∀(k:Nat) (e:ze) (x:List ByteArray),E[k]?=some e->X[k]?=some x->∃(b1:List Nat) (c1:Nat) (L:List Pt),za T.N row 0 (E.take k) e.loc b1 c1/\CQ T.yN [.yB 0] b1=some L/\x=L4 T L
theorem Q5.snoc {T:zn}{E0:List ze}{X:List (List ByteArray)}{b1:List Nat}{c1:Nat}{L:List Pt} (h:Q5 T row E0 X) (hl:X.length=E0.length) (hr:za T.N row 0 E0 e.loc b1 c1) (hs:CQ T.yN [.yB 0] b1=some L):Q5 T row (E0++ [e]) (X++ [L4 T L]):=λk e' x h1 h2=>by
 rcases jw k E0.length with h3 |h3
 ·rw[aL h3]at h1
  rw[aL (by omega)]at h2;rw[xh (by omega)];exact h k e' x h1 h2
 ·have hk:k=E0.length:=by
   have:=(yS.1 h1).1;simp at this;omega
  subst hk;rw[zQ (yF _),kq]at h1;rw[zQ (by omega),show E0.length - X.length=0 by omega]at h2;have e1:e=e':=by simpa using h1
  have e2:L4 T L=x:=by simpa using h2
  subst e1;rw[xh (yF _),mj];exact⟨b1,c1,L,hr,hs,e2.symm⟩
end Go.Proofs.YtjjggdcnpndgjaaGreatDoor
