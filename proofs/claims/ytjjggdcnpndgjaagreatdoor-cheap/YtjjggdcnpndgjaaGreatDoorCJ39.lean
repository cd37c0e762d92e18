import Derived.Test.YtjjggdcnpndgjaaGreatDoorCJ38
set_option linter.unusedSimpArgs false
set_option maxHeartbeats 8000000
set_option maxRecDepth 100000
namespace Go.Proofs.YtjjggdcnpndgjaaGreatDoor
open Go.RowKit Go.Shelf
variable {e:Ab}{row:List Nat}
section
theorem Tryz.infoE121:(Tryz.prog.info? 121).map (λi=>(i.zero,i.size,i.bytes))=some (some (.agg #[ab 0,ab 0,.string ByteArray.empty,.string ByteArray.empty]),4,48):=by kernel_rfl
theorem Tryz.infoE39:(Tryz.prog.info? 39).map (λi=>(i.zero,i.size,i.bytes))=some (some (.slice none 0 0),1,24):=by kernel_rfl
def mV (T:Am) (e:Ab) (L1 L2:List Pt) (a':Nat) (nw:List Nat):Prop:=
 (e.kind=1/\e.new<T.N.nT/\DH T.zH L1 e.new=some L2/\a'=e.loc/\nw=[e.new])\/(e.kind=2/\L2=L1/\a'=e.loc+1/\nw=[])\/(e.kind=3/\e.new<T.N.nT/\DH T.zH L1 e.new=some L2/\a'=e.loc+1/\nw=[e.new])
def LP (T:Am) (L:List Pt):List ByteArray:=I4 T.zy T.N.nT (BG (KG T L))
section
variable {T:Am}{w:World}{mb wk B a c:Nat}{rv:Value}{made:List Nat}{E:List Ab}{L L1 L2:List Pt}{X:List (List ByteArray)}
theorem xF (Fb:T.Ok) {a':Nat}{nw:List Nat} (hI:T.In w) (Bo:T.Bd B) (hB:B<=w.heap.size) (Ot:∀V,B3 B w V->TabAt 1 Lib.deBruijn32tab V) (h:Ev T w mb wk B rv a c made E L X) (hrw:Em w B rv row) (hrl:∀t∈row,t<T.N.nT) (ha:a<=e.loc) (ha2:e.loc<=row.length) (Jp:row.length<=100)
  (hrun:D4 T.zH L ((row.drop a).take (e.loc - a))=some L1) (hst:mV T e L1 L2 a' nw) (hold:e.old<=T.N.nT) (hnew:e.new<=T.N.nT) (hm:made.length+(e.loc - a)<=9900) (hc:c<=1000000) (Qo:e.cost<=1000000) (hE:E.length<=1000000) (hXl:X.length<=1000000):
  Calls Tryz.prog 95 #[ac mb,.agg #[ab e.loc,ab e.kind,ab e.old,ab e.new,ab e.cost]] w λr w'=>r=.returned (.tuple #[])/\Ev T w' mb wk B rv a' (c+e.cost) (made++(row.drop a).take (e.loc - a)++nw) (E++ [e]) L2 (X++ [LP T L1])/\B3 B w w':=by
 obtain⟨iI,Ii,Ij,Ik,Il⟩:=iy Tryz.infoX3;obtain⟨iE,Xw,aak,aal,aam⟩:=iy Tryz.infoE121;obtain⟨iR,Rs,Rt,Ru,Rv⟩:=iy Tryz.infoE39;have HI:Hid (∀V,B3 B w V->T.In V):=hid λV hk=>hI.below Bo (hk.below hB)
 have Dy:Hid (T.Ok/\T.Bd B):=hid ⟨Fb,Bo⟩;have afd:=hid Ot;have Xz:=hid hst;have akD:T.tb<B:=Bo.tb;obtain⟨loc,kind,old,new,cost⟩:=e;simp only at ha ha2 hrun hold hnew hm Qo ⊢;obtain⟨Gk,adD⟩:=qE (made++(row.drop a).take (loc - a));have hm1:Gk.length<=9900:=by rw[<-adD];simp;omega
 have hloc:loc<=100:=by omega
 rw[adD];obtain⟨W1,hW1⟩:=qE (w.alloc (.cells #[ab loc,ab kind,ab old,ab new,ab cost] 201));have hb1:Below w.heap.size w W1:=by rw[<-hW1];exact(ah _ w).alloc (zn _) _
 have Tj:W1.heap[w.heap.size]?=some (.cells #[ab loc,ab kind,ab old,ab new,ab cost] 201 (0,0)):=by rw[<-hW1];exact bg w _
 have hs1:w.heap.size<W1.heap.size:=ak Tj;have Bt:Hid (B3 B w W1):=hid (B3.zQ hb1);have HKt:Hid (Calls Tryz.prog 96 #[ac mb,ab loc] W1 λr w'=>r=.returned (.tuple #[])/\Ev T w' mb wk B rv loc c Gk E L1 X/\B3 B W1 w'):=hid (by
  rw[<-adD];exact V7 Fb (HI.out W1 Bt.out) Bo (by omega) (h.below hb1) (hrw.below (hb1.mono hB)) hrl ha ha2 Jp hrun (by omega))
 have Hs:=hid hW1;have Ww:=hid Tj;clear hI Fb Bo Ot h hrw hrl hrun hst adD hb1 ha ha2 hW1;have c0:W1.cell? (af w.heap.size 0)=some (ab loc):=(A0 Tj).trans rfl
 go_enter Tryz.func95,Tryz.ntmps95
 go_upto_region 1 with fail
 rw[Hs.out]
 go_upto_region 2 with(go_at_call 96;refine HKt.out.mono ?_;rintro r w2 ⟨rfl,hm2,hk2⟩;have HM2:=hid hm2;have Hj:Hid (B3 B W1 w2):=hid hk2;clear hm2 hk2)
 obtain⟨x,⟨vm,ve,vc,vr,vx,ws,xs,hv2⟩,hx,hLl,hps⟩:=HM2.out;have hs2:W1.heap.size<=w2.heap.size:=Hj.out.size;have afe:B3 B w w2:=Bt.out.trans Hj.out;have aap:w2.heap[w.heap.size]?=some (.cells #[ab loc,ab kind,ab old,ab new,ab cost] 201 (0,0)):=(Hj.out.block _ hs1 (.inr ⟨_,_,Ww.out⟩)).trans Ww.out;have Jb:=HI.out w2 afe;obtain⟨d0,d1,_⟩:=Jb.tv.Cq;have Le:Hid (∀V u,Below w2.heap.size w2 V->u<=T.N.nT->Calls Tryz.prog 129 #[.agg #[.slice T.yZ T.N.nT T.yT,ae T.gN T.N.nN T.yQ],ab (u:Nat)] V λr w'=>r=.returned (.string (D6 T.zy T.N.nT u))/\Below V.heap.size V w'):=hid λV u Bf hu=>by
  have Yc:=Jb.below Jb.bd Bf;exact Q5 V T.n0 T.N T.zy T.pg T.yZ T.yT T.gN T.yQ Yc.fc.gr Yc.fc.ln u hu
 have HWo:Hid (∀V,Below w2.heap.size w2 V->Calls Tryz.prog 129 #[.agg #[.slice T.yZ T.N.nT T.yT,ae T.gN T.N.nN T.yQ],ab old] V λr w'=>r=.returned (.string (D6 T.zy T.N.nT old))/\Below V.heap.size V w'):=hid λV Bf=>Le.out V old Bf hold
 have HWn:Hid (∀V,Below w2.heap.size w2 V->Calls Tryz.prog 129 #[.agg #[.slice T.yZ T.N.nT T.yT,ae T.gN T.N.nN T.yQ],ab new] V λr w'=>r=.returned (.string (D6 T.zy T.N.nT new))/\Below V.heap.size V w'):=hid λV Bf=>Le.out V new Bf hnew
 obtain⟨wo,hwo⟩:=qE (D6 T.zy T.N.nT old);obtain⟨wn,hwn⟩:=qE (D6 T.zy T.N.nT new);obtain⟨nT,Ac⟩:=qF (T.N.nT);obtain⟨nN,zT⟩:=qF (T.N.nN);rw[hwo,<-Ac,<-zT]at HWo;rw[hwn,<-Ac,<-zT]at HWn;rw[<-Ac]at d0;rw[<-zT]at d1;have HWE:Hid (D6 T.zy T.N.nT old=wo/\D6 T.zy T.N.nT new=wn):=hid ⟨hwo,hwn⟩;have e0:=(A0 (j:=0) aap).trans rfl;have e1:=(A0 (j:=1) aap).trans rfl;have e2:=(A0 (j:=2) aap).trans rfl;have e3:=(A0 (j:=3) aap).trans rfl;have m0:w2.cell? (af mb 0)=some (ac T.tb):=(A0 hv2.blk).trans rfl;have m5:w2.cell? (af mb 5)=some ve:=(A0 hv2.blk).trans rfl;obtain⟨nE,Js⟩:=qF (E.length);rw[<-Js]at hE;have Uu:w2.ownsRow B 121 4 ve nE (E.flatMap (Mt T)):=by rw[Js];exact hv2.rows 5 (.inr (.inl rfl))
 have ogM:some mb≠ve.ownBlock:=λe=>A9 Uu hv2.blk (by decide) e.symm
 have ogE:some w.heap.size≠ve.ownBlock:=λe=>A9 Uu aap (by decide) e.symm
 have Tp:some T.tb≠ve.ownBlock:=λe=>by have:=(Uu.lt _ e.symm).1;omega
 have amB:mb<w2.heap.size:=hv2.Vl;have Gn:=hid hv2;have abT:=hid Uu;have aff:=hid aap;have aeE:=hid afe;have Tl:=hid Js;have HXs:Hid (x<=2*Gk.length/\L1.length<=7*Gk.length+1/\BE T.N L1):=hid ⟨hx,hLl,hps⟩;clear hv2 Uu aap afe Js hx hLl hps Jb hwo hwn Ac zT Le c0;refine IB (λw'=>(w'.cell? (af w.heap.size 0)=some (ab loc)/\w'.cell? (af w.heap.size 1)=some (ab kind)/\w'.cell? (af w.heap.size 2)=some (ab old)/\w'.cell? (af w.heap.size 3)=some (ab new))/\w'.cell? (af mb 0)=some (ac T.tb)/\w'.cell? (af mb 5)=some ve/\w'.cell? (af T.tb 0)=some (.slice T.yZ nT T.yT)/\w'.cell? (af T.tb 1)=some (ae T.gN nN T.yQ)) hmx yM ⟨⟨e0,e1,e2,e3⟩,m0,m5,d0,d1⟩ (λhH=>?_);simp only[AG,BP,AR];refine tB 0 hH ?_;refine tB 1 hH ?_;refine tB 2 hH ?_;refine tB 3 hH ?_;refine tB 4 hH ?_;refine tB 5 hH ?_;refine tB 6 hH ?_;refine tB 7 hH ?_;refine tB 8 hH ?_;refine tB 9 hH ?_;refine tB 10 hH ?_
 refine tB 11 hH ?_;refine tB 12 hH ?_;refine tB 13 hH ?_;refine tB 14 hH ?_;refine tB 15 hH ?_;refine tB 16 hH ?_;refine tB 17 hH ?_;refine tB 18 hH ?_;refine tB 19 hH ?_;refine tB 21 hH ?_;refine tB 22 hH ?_;refine tB 23 hH ?_;refine tB 24 hH ?_;refine tB 25 hH ?_;refine tB 26 hH ?_;refine tB 27 hH ?_;refine tB 28 hH ?_;refine tB 29 hH ?_;refine tB 30 hH ?_;refine tL ?_;refine tS 20 λK hK=>?_
 refine tM ?_
 go_simp;refine(HWo.out _ (ah _ w2).drew).mono ?_;rintro r w5 ⟨rfl,zP⟩;try dsimp only
 refine hK.out _ _ ?_ λhH=>?_
 ·exact⟨⟨A8 zP hH.1.1,A8 zP hH.1.2.1,A8 zP hH.1.2.2.1,A8 zP hH.1.2.2.2⟩,A8 zP hH.2.1,A8 zP hH.2.2.1,A8 zP hH.2.2.2.1,A8 zP hH.2.2.2.2⟩
 clear hK K;refine tL ?_;have Av:Hid (Below w2.heap.size w2 w5):=hid ((ah _ w2).drew.trans zP);refine tS 31 λK hK=>?_
 refine tM ?_
 go_simp;refine(HWn.out _ Av.out).mono ?_;rintro r w6 ⟨rfl,zU⟩;try dsimp only
 refine hK.out _ _ ?_ λhH=>?_
 ·exact⟨⟨A8 zU hH.1.1,A8 zU hH.1.2.1,A8 zU hH.1.2.2.1,A8 zU hH.1.2.2.2⟩,A8 zU hH.2.1,A8 zU hH.2.2.1,A8 zU hH.2.2.2.1,A8 zU hH.2.2.2.2⟩
 clear hK K;refine tL ?_;have Es:Hid (Below w2.heap.size w2 w6):=hid (Av.out.trans (zU.mono Av.out.size));refine tB 32 hH ?_;refine tL ?_;refine tS 33 λK hK=>?_
 refine tM ?_;go_simp;refine hK.out _ _ ?_ λhH=>?_
 ·exact⟨⟨A6 _ hH.1.1,A6 _ hH.1.2.1,A6 _ hH.1.2.2.1,A6 _ hH.1.2.2.2⟩,A6 _ hH.2.1,A6 _ hH.2.2.1,A6 _ hH.2.2.2.1,A6 _ hH.2.2.2.2⟩
 clear hK K;refine tL ?_;have Wy:w2.heap.size<=w6.heap.size:=Es.out.size;have HR6:Hid (w6.ownsRow B 121 4 ve nE (E.flatMap (Mt T))):=hid (AC abT.out (A5.zQ Es.out []) (λ_ _=>by simp));refine tS 34 λK hK=>?_
 refine tM ?_;rw[ay (by rfl)];refine mq _ (.tmp 13) (.tmp 41) 44 rfl B 121 iE (.agg #[ab 0,ab 0,.string ByteArray.empty,.string ByteArray.empty]) 4 48 Tryz.underlying44 Xw aak aal aam rfl (by decide) ve _ _ rfl (HR6.out.alloc _) (af w6.heap.size 0) 1 1 [ab loc,ab kind,.string wo,.string wn] rfl rfl (dn (fr:=(0,0)) (dz w6 _)) Gl (by omega) Bg (by omega) zG _ rfl ?_;intro g8 Lp w7 hown hgrow hat Cu;refine hK.out _ _ ?_ λhH=>?_
 ·exact⟨⟨(hgrow.cell_far _ zG (by exact ogE)).trans hH.1.1,(hgrow.cell_far _ zG (by exact ogE)).trans hH.1.2.1,(hgrow.cell_far _ zG (by exact ogE)).trans hH.1.2.2.1,(hgrow.cell_far _ zG (by exact ogE)).trans hH.1.2.2.2⟩,(hgrow.cell_far _ zG (by exact ogM)).trans hH.2.1,(hgrow.cell_far _ zG (by exact ogM)).trans hH.2.2.1,(hgrow.cell_far _ zG Oz).trans hH.2.2.2.1,(hgrow.cell_far _ zG Oz).trans hH.2.2.2.2⟩
 clear hK K;refine tL ?_;refine tB 35 hH ?_;refine tB 36 hH ?_;refine tB 37 hH ?_;refine tB 38 hH ?_;refine tL ?_;refine bq yM ?_ _;clear hH zP zU e0 e1 e2 e3 m0 m5 d0 d1;have happ:=(Gn.out.below Es.out).app (f':=Lo T vm (ae g8 (nE+1) Lp) vc vr vx Gk Gk (E++ [⟨loc,kind,old,new,cost⟩]) E xs) (j0:=5) (.inr (.inl rfl)) ((A5.refl w6 []).alloc (.cells #[ab loc,ab kind,.string wo,.string wn] 121)) hgrow
  (by
   show w7.ownsRow B 121 4 _ (E++ [(⟨loc,kind,old,new,cost⟩:Ab)]).length ((E++ [(⟨loc,kind,old,new,cost⟩:Ab)]).flatMap (Mt T));have e:(E++ [(⟨loc,kind,old,new,cost⟩:Ab)]).flatMap (Mt T)=E.flatMap (Mt T)++ [ab loc,ab kind,.string wo,.string wn]:=by rw[mo,<-HWE.out.1,<-HWE.out.2];rfl
   rw[lA,e,<-Tl.out];exact hown) rfl rfl (N7 hat (by simp)) (λj hj hne=>by rcases hj with e |e |e |e |e <;> subst e <;> first |exact absurd rfl hne |rfl)
 obtain⟨y1,y2,y3⟩:=happ;have yc:w7.cell? (af mb 5)=some ve:=(A0 y1).trans rfl;have yf:w7.frozen? (af mb 5)=false:=A7 y1;have HY:=hid (And.intro y2 y3);clear y1 y2 y3 hown hgrow hat Cu;show wpList _ _ _ _ _ _
 go_upto_region 3 with fail
 obtain⟨W8,Oe⟩:=qE (w7.setCell (af mb 5) (ae g8 (nE+1) Lp));have Ki:Hid (Cr T W8 mb wk B rv loc c (Lo T vm (ae g8 (nE+1) Lp) vc vr vx Gk Gk (E++ [⟨loc,kind,old,new,cost⟩]) E xs) ws L1 x xs X):=hid (by rw[<-Oe];exact HY.out.1);have Ql:Hid (B3 B w2 W8):=hid (by rw[<-Oe];exact(B3.zQ Es.out).trans HY.out.2);rw[Oe];clear Oe yc yf HY;have hs8:=Ql.out.size;have adE:W8.heap[w.heap.size]?=some (.cells #[ab loc,ab kind,ab old,ab new,ab cost] 201 (0,0)):=(Ql.out.block _ (ak aff.out) (.inr ⟨_,_,aff.out⟩)).trans aff.out;have e4:=(A0 (j:=4) adE).trans rfl;have m6:W8.cell? (af mb 6)=some vc:=(A0 Ki.out.blk).trans rfl;have Vk:W8.ownsRow B 3 1 vc nE (DJ (E.map (·.cost))):=by rw[Tl.out];exact Ki.out.rows 6 (.inr (.inr (.inl rfl)))
 have akE:some mb≠vc.ownBlock:=λe=>A9 Vk Ki.out.blk (by decide) e.symm
 have akF:some w.heap.size≠vc.ownBlock:=λe=>A9 Vk adE (by decide) e.symm
 have adC:=hid Vk;have afg:=hid adE;have akG:mb<W8.heap.size:=Ki.out.Vl;clear adE Vk;have akH:w.heap.size<W8.heap.size:=ak afg.out;refine IB (λw'=>w'.cell? (af w.heap.size 4)=some (ab cost)/\w'.cell? (af mb 6)=some vc) hmx yM ⟨e4,m6⟩ (λhH=>?_);simp only[AG,BP,AR];refine tB 0 hH ?_;refine tB 1 hH ?_;refine tB 2 hH ?_;refine tB 3 hH ?_;refine tB 4 hH ?_;refine tB 5 hH ?_;refine tB 6 hH ?_;refine tB 7 hH ?_;refine tL ?_;refine tS 8 λK hK=>?_
 refine tM ?_;go_simp;refine hK.out _ _ ?_ λhH=>?_
 ·exact⟨A6 _ hH.1,A6 _ hH.2⟩
 clear hK K;refine tL ?_;refine tS 9 λK hK=>?_
 refine tM ?_;rw[ay (by rfl)];refine mq _ (.tmp 51) (.tmp 54) 45 rfl B 3 iI (ab 0) 1 8 Tryz.underlying45 Ii Ij Ik Il rfl (by decide) vc _ _ rfl (adC.out.alloc _) (af W8.heap.size 0) 1 1 [ab cost] rfl rfl (dn (fr:=(0,0)) (dz W8 _)) Gl (by omega) Bg (by omega) zG _ rfl ?_;intro g9 Ll w9 hown hgrow hat Cu;refine hK.out _ _ ?_ λhH=>?_
 ·exact⟨(hgrow.cell_far _ zG (by exact akF)).trans hH.1,(hgrow.cell_far _ zG (by exact akE)).trans hH.2⟩
 clear hK K;refine tL ?_;refine tB 10 hH ?_;refine tB 11 hH ?_;refine tB 12 hH ?_;refine tB 13 hH ?_;refine tL ?_;refine bq yM ?_ _;clear hH m6;have happ:=Ki.out.app (f':=Lo T vm (ae g8 (nE+1) Lp) (ae g9 (nE+1) Ll) vr vx Gk Gk (E++ [⟨loc,kind,old,new,cost⟩]) (E++ [⟨loc,kind,old,new,cost⟩]) xs) (j0:=6) (.inr (.inr (.inl rfl))) (((A5.refl W8 []).alloc (.cells #[ab cost] 3)).drew) hgrow
  (by
   show w9.ownsRow B 3 1 _ (E++ [(⟨loc,kind,old,new,cost⟩:Ab)]).length (DJ ((E++ [(⟨loc,kind,old,new,cost⟩:Ab)]).map (·.cost)));rw[lA,fq,GW,<-Tl.out];exact hown) rfl rfl (N7 hat (by simp)) (λj hj hne=>by rcases hj with e |e |e |e |e <;> subst e <;> first |exact absurd rfl hne |rfl)
 obtain⟨y1,y2,y3⟩:=happ;have yc:w9.cell? (af mb 6)=some vc:=(A0 y1).trans rfl;have yf:w9.frozen? (af mb 6)=false:=A7 y1;have HY:=hid (And.intro y2 y3);clear y1 y2 y3 hown hgrow hat Cu;show wpList _ _ _ _ _ _
 go_upto_region 4 with fail
 obtain⟨Su,aae⟩:=qE (w9.setCell (af mb 6) (ae g9 (nE+1) Ll));have afh:Hid (Cr T Su mb wk B rv loc c (Lo T vm (ae g8 (nE+1) Lp) (ae g9 (nE+1) Ll) vr vx Gk Gk (E++ [⟨loc,kind,old,new,cost⟩]) (E++ [⟨loc,kind,old,new,cost⟩]) xs) ws L1 x xs X):=hid (by rw[<-aae];exact HY.out.1);have afi:Hid (B3 B W8 Su):=hid (by rw[<-aae];exact HY.out.2);rw[aae];clear aae yc yf HY e4;have amC:=afi.out.size;have afj:Su.heap[w.heap.size]?=some (.cells #[ab loc,ab kind,ab old,ab new,ab cost] 201 (0,0)):=(afi.out.block _ akH (.inr ⟨_,_,afg.out⟩)).trans afg.out;have e4:=(A0 (j:=4) afj).trans rfl;have m7:Su.cell? (af mb 7)=some (ab c):=(A0 afh.out.blk).trans rfl;have z7:Su.frozen? (af mb 7)=false:=A7 afh.out.blk;have hcw:IntKind.i64.wrap ((c:Int)+(cost:Int))=(c:Int)+(cost:Int):=by rw[Db];omega
 have afk:=hid afj;clear afj;refine IB (λw'=>w'.cell? (af w.heap.size 4)=some (ab cost)/\w'.cell? (af mb 7)=some (ab c)) hmx yM ⟨e4,m7⟩ (λhH=>?_);simp only[AG,BP,AR];refine tB 0 hH ?_;refine tB 1 hH ?_;refine tB 2 hH ?_;refine tB 3 hH ?_;refine tB 4 hH ?_;refine tB 5 hH ?_;refine tB 6 hH ?_;refine tB 7 hH ?_;refine tB 8 hH ?_;refine tB 9 hH ?_;refine tB 10 hH ?_;refine tB 11 hH ?_;refine tL ?_;refine bq yM ?_ _;clear hH;show wpList _ _ _ _ _ _
 go_upto_region 5 with fail
 obtain⟨Gc,aaq⟩:=qE ((Su.setCell (af mb 7) (ab ((c:Int)+(cost:Int)))).drew);have Ov:Hid (Cr T Gc mb wk B rv loc (c+cost) (Lo T vm (ae g8 (nE+1) Lp) (ae g9 (nE+1) Ll) vr vx Gk Gk (E++ [⟨loc,kind,old,new,cost⟩]) (E++ [⟨loc,kind,old,new,cost⟩]) xs) ws L1 x xs X/\B3 B Su Gc):=hid (by
  rw[<-aaq];obtain⟨z1,z2⟩:=afh.out.akA (c+cost);exact⟨z1.below (ah _ _).drew,z2.trans (B3.zQ (ah _ _).drew)⟩)
 rw[aaq];clear aaq e4 m7 z7;have amD:=Ov.out.2.size;have ahB:B3 B w Gc:=aeE.out.trans (Ql.out.trans (afi.out.trans Ov.out.2));have acf:=hid ahB;have akI:Hid (∀V,Below Gc.heap.size Gc V->Calls Tryz.prog 148 #[ac wk] V λr w'=>∃u,r=.returned u/\BL w' V.heap.size u (LP T L1)/\Below V.heap.size V w'):=hid λV Bf=>dO Dy.out.1 (HI.out V (acf.out.trans (B3.zQ Bf))) (afd.out V (acf.out.trans (B3.zQ Bf))) (Ov.out.1.below Bf).Jr (by have:=HXs.out.2.1;omega) HXs.out.2.2
 have m10:Gc.cell? (af mb 10)=some vx:=(A0 Ov.out.1.blk).trans rfl;have m4:Gc.cell? (af mb 4)=some (ac wk):=(A0 Ov.out.1.blk).trans rfl;obtain⟨nX,hnX⟩:=qF (xs.length);have amE:nX<=1000000:=by rw[hnX,<-Ov.out.1.len];exact hXl
 have afl:Gc.ownsRow B 39 1 vx nX xs:=by rw[hnX];exact Ov.out.1.rows 10 (.inr (.inr (.inr (.inr rfl))))
 have ahC:some mb≠vx.ownBlock:=λe=>A9 afl Ov.out.1.blk (by decide) e.symm
 have amF:mb<Gc.heap.size:=Ov.out.1.Vl;have akJ:=hid afl;have HNX:=hid hnX;clear ahB hnX afl;refine IB (λw'=>w'.cell? (af mb 10)=some vx/\w'.cell? (af mb 4)=some (ac wk)) hmx yM ⟨m10,m4⟩ (λhH=>?_);simp only[AG,BP,AR];refine tB 0 hH ?_;refine tB 1 hH ?_;refine tB 2 hH ?_;refine tB 3 hH ?_;refine tB 4 hH ?_;refine tB 5 hH ?_;refine tB 6 hH ?_;refine tB 7 hH ?_;refine tB 8 hH ?_;refine tB 9 hH ?_;refine tL ?_;refine tS 10 λK hK=>?_
 refine tM ?_
 go_simp;refine(akI.out _ (ah _ Gc).drew).mono ?_;rintro r Hg ⟨u,rfl,hu,zP⟩;obtain⟨ua,uc,rfl⟩:=BO hu;try dsimp only
 refine hK.out _ _ ?_ λhH=>?_
 ·exact⟨A8 zP hH.1,A8 zP hH.2⟩
 clear hK K;refine tL ?_;have Qr:Hid (Below Gc.heap.size Gc Hg):=hid ((ah _ Gc).drew.trans zP);have HU:=hid hu;obtain⟨nW,hnW⟩:=qF ((LP T L1).length);rw[<-hnW]at HU ⊢;have amG:Gc.heap.size<=Hg.heap.size:=Qr.out.size;have akK:Hid (Cr T Hg mb wk B rv loc (c+cost) (Lo T vm (ae g8 (nE+1) Lp) (ae g9 (nE+1) Ll) vr vx Gk Gk (E++ [⟨loc,kind,old,new,cost⟩]) (E++ [⟨loc,kind,old,new,cost⟩]) xs) ws L1 x (xs++ [.slice ua nW uc]) (X++ [LP T L1])):=hid ((Ov.out.1.below Qr.out).akB (w0:=Gc) (SC HU.out (by show B<=Gc.heap.size;have:=acf.out.size;omega)) (λg hg=>(World.ownsRow.lt HU.out g hg).1) (λj hj g hg=>D8 (Ov.out.1.rows j hj) hg));have akL:Hid (Hg.ownsRow B 39 1 vx nX xs):=hid (AC akJ.out (A5.zQ Qr.out []) (λ_ _=>by simp));clear hu hnW;refine tS 11 λK hK=>?_
 refine tM ?_;go_simp;refine hK.out _ _ ?_ λhH=>?_
 ·exact⟨A6 _ hH.1,A6 _ hH.2⟩
 clear hK K;refine tL ?_;refine tS 12 λK hK=>?_
 refine tM ?_;rw[ay (by rfl)];refine mq _ (.tmp 75) (.tmp 81) 46 rfl B 39 iR (.slice none 0 0) 1 24 Tryz.underlying46 Rs Rt Ru Rv rfl (by decide) vx _ _ rfl (akL.out.alloc _) (af Hg.heap.size 0) 1 1 [.slice ua nW uc] rfl rfl (dn (fr:=(0,0)) (dz Hg _)) Gl (by omega) Bg (by omega) (by have:=acf.out.size;simp;omega) _ rfl ?_;intro g13 ahD w13 hown hgrow hat Cu;refine hK.out _ _ ?_ λhH=>?_
 ·exact⟨(hgrow.cell_far _ zG (by exact ahC)).trans hH.1,(hgrow.cell_far _ zG (by exact ahC)).trans hH.2⟩
 clear hK K;refine tL ?_;refine tB 13 hH ?_;refine tB 14 hH ?_;refine tB 15 hH ?_;refine tB 16 hH ?_;refine tL ?_;refine bq yM ?_ _;clear hH zP m10 m4;have happ:=akK.out.app (f':=Lo T vm (ae g8 (nE+1) Lp) (ae g9 (nE+1) Ll) vr (ae g13 (nX+1) ahD) Gk Gk (E++ [⟨loc,kind,old,new,cost⟩]) (E++ [⟨loc,kind,old,new,cost⟩]) (xs++ [.slice ua nW uc])) (j0:=10) (.inr (.inr (.inr (.inr rfl)))) ((A5.refl Hg []).alloc (.cells #[.slice ua nW uc] 39)) hgrow
  (by
   show w13.ownsRow B 39 1 _ (xs++ [Value.slice ua nW uc]).length (xs++ [Value.slice ua nW uc]);rw[lA,<-HNX.out];exact hown) rfl rfl (N7 hat (by simp)) (λj hj hne=>by rcases hj with e |e |e |e |e <;> subst e <;> first |exact absurd rfl hne |rfl)
 obtain⟨y1,y2,y3⟩:=happ;have yc:w13.cell? (af mb 10)=some vx:=(A0 y1).trans rfl;have yf:w13.frozen? (af mb 10)=false:=A7 y1;have HY:=hid (And.intro y2 y3);clear y1 y2 y3 hown hgrow hat Cu;show wpList _ _ _ _ _ _
 go_upto_region 6 with fail
 obtain⟨Qs,acg⟩:=qE (w13.setCell (af mb 10) (ae g13 (nX+1) ahD));have adF:Hid (Ev T Qs mb wk B rv loc (c+cost) Gk (E++ [⟨loc,kind,old,new,cost⟩]) L1 (X++ [LP T L1])):=hid ⟨x,⟨_,_,_,_,_,_,_,by rw[<-acg];exact HY.out.1⟩,HXs.out⟩;have aba:Hid (B3 B w Qs):=hid (by rw[<-acg];exact acf.out.trans ((B3.zQ Qr.out).trans HY.out.2));have adG:Qs.heap[w.heap.size]?=some (.cells #[ab loc,ab kind,ab old,ab new,ab cost] 201 (0,0)):=by
  have h1:B3 B Su Qs:=by rw[<-acg];exact Ov.out.2.trans ((B3.zQ Qr.out).trans HY.out.2)
  exact(h1.block _ (ak afk.out) (.inr ⟨_,_,afk.out⟩)).trans afk.out
 rw[acg];clear acg yc yf HY;have abb:=hid adG;have e1:=(A0 (j:=1) adG).trans rfl;have e3:=(A0 (j:=3) adG).trans rfl;have ahE:B<=Qs.heap.size:=by have:=aba.out.size;omega
 clear adG
 rcases Xz.out with⟨hk,ach,hsp,ha',Vm⟩ | ⟨hk,hL2,ha',Vm⟩ | ⟨hk,ach,hsp,ha',Vm⟩
 ·have hk:kind=1:=hk
  have ha':a'=loc:=ha';have Vm:nw=[new]:=Vm;subst hk;subst ha';subst Vm;have Vj:Hid (Calls Tryz.prog 149 #[ac mb,ab new] Qs λr w'=>r=.returned (.tuple #[])/\Ev T w' mb wk B rv a' (c+cost) (Gk++ [new]) (E++ [⟨a',1,old,new,cost⟩]) L2 (X++ [LP T L1])/\B3 B Qs w'):=hid (WY Dy.out.1 (HI.out Qs aba.out) Dy.out.2 ahE adF.out ach hsp (by omega));clear ach hsp
  go_wp2_with (go_at_call 149;refine Vj.out.mono ?_;rintro r w15 ⟨rfl,abc,aar⟩;have H15:=hid (And.intro abc aar);have f1:w15.cell? (af w.heap.size 1)=some (ab 1):=(A0 ((aar.block _ (ak abb.out) (.inr ⟨_,_,abb.out⟩)).trans abb.out)).trans rfl;clear abc aar e1 e3)
  go_end0
  exact⟨rfl,H15.out.1,aba.out.trans H15.out.2⟩
 ·have hk:kind=2:=hk
  have ha':a'=loc+1:=ha';subst hk;subst ha';subst Vm;subst hL2;obtain⟨_,_,_,_,q5,q6⟩:=adF.out.blk;have Bz:IntKind.i64.wrap ((loc:Int)+1)=(loc:Int)+1:=by rw[Db];omega
  go_wp2
  go_end0
  obtain⟨z1,z2⟩:=adF.out.setAt (loc+1);exact⟨rfl,z1,aba.out.trans z2⟩
 ·have hk:kind=3:=hk
  have ha':a'=loc+1:=ha';have Vm:nw=[new]:=Vm;subst hk;subst ha';subst Vm;have Vj:Hid (Calls Tryz.prog 149 #[ac mb,ab new] Qs λr w'=>r=.returned (.tuple #[])/\Ev T w' mb wk B rv loc (c+cost) (Gk++ [new]) (E++ [⟨loc,3,old,new,cost⟩]) L2 (X++ [LP T L1])/\B3 B Qs w'):=hid (WY Dy.out.1 (HI.out Qs aba.out) Dy.out.2 ahE adF.out ach hsp (by omega));have Bz:IntKind.i64.wrap ((loc:Int)+1)=(loc:Int)+1:=by rw[Db];omega
  clear ach hsp
  go_wp2_with (go_at_call 149;refine Vj.out.mono ?_;rintro r w15 ⟨rfl,abc,aar⟩;have H15:=hid (And.intro abc aar);have f1:w15.cell? (af w.heap.size 1)=some (ab 3):=(A0 ((aar.block _ (ak abb.out) (.inr ⟨_,_,abb.out⟩)).trans abb.out)).trans rfl;obtain⟨_,_,_,_,q5,q6⟩:=abc.blk;clear abc aar e1 e3)
  go_end0
  obtain⟨z1,z2⟩:=H15.out.1.setAt (loc+1);exact⟨rfl,z1,aba.out.trans (H15.out.2.trans z2)⟩
end
end
def jZ (N:NG) (row:List Nat) (e:Ab) (a':Nat) (nw:List Nat):Prop:=
 (e.kind=1/\e.old=N.nT/\e.new<N.nT/\a'=e.loc/\nw=[e.new])\/(e.kind=2/\row[e.loc]?=some e.old/\e.new=N.nT/\a'=e.loc+1/\nw=[])\/(e.kind=3/\row[e.loc]?=some e.old/\e.new<N.nT/\a'=e.loc+1/\nw=[e.new])
theorem Aa.next {N:NG}{i j:Nat}{E:List Ab}{b:List Nat}{c:Nat} (h:Aa N row i E j b c):∀{e:Ab}{E':List Ab},E=e::E'->∃(a':Nat) (nw b':List Nat) (c':Nat),i<=e.loc/\e.loc<=j/\b=(row.drop i).take (e.loc - i)++nw++b'/\Aa N row a' E' j b' c'/\c=e.cost+c'/\jZ N row e a' nw/\Aa N row i [e] a' ((row.drop i).take (e.loc - i)++nw) e.cost:=by
 induction h with
 |done i=>intro e E' h;cases h
 | @keep i x j E b c hx h ih=>
  intro e E' hE;obtain⟨a',nw,b',c',h1,h2,h3,h4,h5,h6,h7⟩:=ih hE;have e1:(row.drop i).take (e.loc - i)=x::(row.drop (i+1)).take (e.loc - (i+1)):=by
   obtain⟨hi,ex⟩:=zM.1 hx;rw[gm hi,show e.loc - i=(e.loc - (i+1))+1 by omega,sy,ex]
  refine⟨a',nw,b',c',by omega,h2,?_,h4,h5,h6,?_⟩
  ·rw[e1,h3];rfl
  ·rw[e1];exact .keep hx h7
 | @put i t j E b c ht h ih=>
  intro e E' hE;injection hE with h1 h2
  subst h1;subst h2;refine⟨i,[t],b,c,zn _,h.le,?_,h,rfl,.inl ⟨rfl,rfl,ht,rfl,rfl⟩,?_⟩
  ·simp
  ·have:=Aa.put (N:=N) (row:=row) ht (.done i)
   simp only[ku,uu,ey]
   rwa [qj]at this
 | @drop i x j E b c hx h ih=>
  intro e E' hE;injection hE with h1 h2
  subst h1;subst h2;refine⟨i+1,[],b,c,zn _,by have:=h.le;show i<=j;omega,?_,h,rfl,.inr (.inl ⟨rfl,hx,rfl,rfl,rfl⟩),?_⟩
  ·simp
  ·have:=Aa.drop (N:=N) (row:=row) hx (.done (i+1))
   simp only[ku,uu,ey]
   rwa [qj]at this
 | @swap i x u j E b c hx hu hn hs h ih=>
  intro e E' hE;injection hE with h1 h2
  subst h1;subst h2;refine⟨i+1,[u],b,c,zn _,by have:=h.le;show i<=j;omega,?_,h,rfl,.inr (.inr ⟨rfl,hx,hu,rfl,rfl⟩),?_⟩
  ·simp
  ·have:=Aa.swap (N:=N) (row:=row) hx hu hn hs (.done (i+1))
   simp only[ku,uu,ey]
   rwa [qj]at this
theorem OH {zH:Nat->Nat->Option (List Pt)}{L0 Z:List Pt}{x y:List Nat} (h:D4 zH L0 (x++y)=some Z):∃L,D4 zH L0 x=some L/\D4 zH L y=some Z:=by
 rw[JA]at h;cases h1:D4 zH L0 x with
 |none=>rw[h1]at h;cases h
 |some L=>rw[h1]at h;exact⟨L,rfl,h⟩
theorem jZ.step {T:Am}{a':Nat}{nw y:List Nat}{L1 Z:List Pt} (h:jZ T.N row e a' nw) (hr:D4 T.zH L1 (nw++y)=some Z):∃L2,mV T e L1 L2 a' nw/\D4 T.zH L1 nw=some L2/\D4 T.zH L2 y=some Z:=by
 obtain⟨L2,h1,h2⟩:=OH hr;have one:∀{t:Nat},D4 T.zH L1 [t]=some L2->DH T.zH L1 t=some L2:=λ{t} h=>by
  have h:(DH T.zH L1 t).bind (λs=>some s)=some L2:=h;cases hs:DH T.zH L1 t with
  |none=>rw[hs]at h;cases h
  |some s=>rw[hs]at h;exact h
 refine⟨L2,?_,h1,h2⟩
 rcases h with⟨k1,k2,k3,k4,k5⟩ | ⟨k1,k2,k3,k4,k5⟩ | ⟨k1,k2,k3,k4,k5⟩
 ·exact .inl ⟨k1,k3,one (by rw[<-k5];exact h1),k4,k5⟩
 ·refine .inr (.inl ⟨k1,?_,k4,k5⟩)
  rw[k5]at h1;have h1:some L1=some L2:=h1;injection h1 with h1
  exact h1.symm
 ·exact .inr (.inr ⟨k1,k3,one (by rw[<-k5];exact h1),k4,k5⟩)
theorem Aa.afm {N:NG} (hN:N.Ok) {i j:Nat}{E:List Ab}{b:List Nat}{c:Nat} (h:Aa N row i E j b c) (hr:∀x∈row,x<N.nT):b.length+i<=j+c/\E.length<=c:=by
 induction h with
 |done i=>exact⟨by simp,zn _⟩
 |keep hx _ ih=>obtain⟨h1,h2⟩:=ih;exact⟨by simp;omega,h2⟩
 |put ht _ ih=>obtain⟨h1,h2⟩:=ih;have:=hN.Yz _ ht;exact⟨by simp;omega,by simp;omega⟩
 |drop hx _ ih=>obtain⟨h1,h2⟩:=ih;have:=hN.abq _ (hr _ (mG hx));exact⟨by omega,by simp;omega⟩
 |swap hx hu hn hs _ ih=>obtain⟨h1,h2⟩:=ih;exact⟨by simp;omega,by simp;omega⟩
def P6 (T:Am) (row:List Nat) (E:List Ab) (X:List (List ByteArray)):Prop:=
 ∀(k:Nat) (e:Ab) (x:List ByteArray),E[k]?=some e->X[k]?=some x->∃(b1:List Nat) (c1:Nat) (L:List Pt),Aa T.N row 0 (E.take k) e.loc b1 c1/\D4 T.zH [.zi 0] b1=some L/\x=LP T L
theorem P6.snoc {T:Am}{E0:List Ab}{X:List (List ByteArray)}{b1:List Nat}{c1:Nat}{L:List Pt} (h:P6 T row E0 X) (hl:X.length=E0.length) (hr:Aa T.N row 0 E0 e.loc b1 c1) (hs:D4 T.zH [.zi 0] b1=some L):P6 T row (E0++ [e]) (X++ [LP T L]):=λk e' x h1 h2=>by
 rcases jz k E0.length with h3 |h3
 ·rw[aL h3]at h1
  rw[aL (by omega)]at h2;rw[xY (by omega)];exact h k e' x h1 h2
 ·have hk:k=E0.length:=by
   have:=(zM.1 h1).1;simp at this;omega
  subst hk;rw[Bc (zn _),ku]at h1;rw[Bc (by omega),show E0.length - X.length=0 by omega]at h2;have e1:e=e':=by simpa using h1
  have e2:LP T L=x:=by simpa using h2
  subst e1;rw[xY (zn _),om];exact⟨b1,c1,L,hr,hs,e2.symm⟩
end Go.Proofs.YtjjggdcnpndgjaaGreatDoor
