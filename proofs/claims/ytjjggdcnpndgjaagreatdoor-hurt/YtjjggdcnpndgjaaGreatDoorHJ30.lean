import Derived.Test.YtjjggdcnpndgjaaGreatDoorHJ29
set_option linter.unusedSimpArgs false
set_option maxHeartbeats 8000000
set_option maxRecDepth 100000
namespace Go.Proofs.YtjjggdcnpndgjaaGreatDoor
abbrev sy:=@List.take_add_one
open Go.RowKit Go.Shelf
attribute [local go_sem] Oper.semAt_some
def i7 (yQ:List (Option Pt)) (q:Nat) (v:Value):Prop:=∃o,yQ[q]?=some o/\v=.agg #[.bool o.isNone,.bool (LX o),ab (M2 o)]
def RF (W:World) (b wb gn nN gq nQ i k:Nat):Prop:=W.heap[b]?=some (.cells #[ac wb] 270 (0,0))/\W.heap[b+1]?=some (.cells #[ae gn nN nN,ae gq nQ nQ] 351 (0,0))/\W.heap[b+2]?=some (.cells #[ab i] 3 (0,0))/\W.heap[b+3]?=some (.cells #[ab k] 3 (0,0))
theorem RF.keeps {W W':World}{b wb gn nN gq nQ i k:Nat}{S:List Nat} (h:RF W b wb gn nN gq nQ i k) (hk:A1 W W' S) (hS:∀q∈S,q<b):RF W' b wb gn nN gq nQ i k:=
 ⟨(hk.block _ (ak h.1) (λhm=>by have:=hS _ hm;omega)).trans h.1,(hk.block _ (ak h.2.1) (λhm=>by have:=hS _ hm;omega)).trans h.2.1,(hk.block _ (ak h.2.2.1) (λhm=>by have:=hS _ hm;omega)).trans h.2.2.1,(hk.block _ (ak h.2.2.2) (λhm=>by have:=hS _ hm;omega)).trans h.2.2.2⟩
theorem gW {Q:zu}{W:World}{Bn:Nat} (hQ:Q.In W) (hb:W.cell? (af Bn 0)=some (ae Q.gt Q.yQ.length Q.ct)):
  ∃ad cap,W.cell? (af Bn 0)=some (.slice ad Q.yQ.length cap)/\Q.yQ.length<=cap/\∀i,i<Q.yQ.length->∃g off a b m,ad=some (af g off)/\i7 Q.yQ i (.agg #[a,b,m])/\W.cell? (af g (off+i*3))=some a/\W.cell? (af g (off+i*3+1))=some b/\W.cell? (af g (off+i*3+2))=some m:=by
 refine⟨_,_,hb,hQ.Qm,λi hi=>?_⟩;obtain⟨h0,h1,h2⟩:=hQ.Qk i _ (gE hi);refine⟨Q.gt,0,_,_,_,rfl,⟨_,gE hi,rfl⟩,?_,?_,?_⟩
 ·rw[jl];exact h0
 ·rw[jl];exact h1
 ·rw[jl];exact h2
structure wR (Q:zu) (i k:Nat) (cn ct:Nat->Nat->Nat->Wt) (nm ta nm' y9:Nat->Wt):Prop where
 mid:Ga Q.T.N (BJ Q.yQ) (FJ Q.hds) Q.row cn ct i k nm ta->Ga Q.T.N (BJ Q.yQ) (FJ Q.hds) Q.row cn ct i k nm' y9
 sm:FX nm'/\FX y9
theorem oT {Q:zu}{w:World} (hQ:Q.In w) (Mc:PG Q.yQ) {B gi gn gq i k:Nat}{nm ta:Nat->Wt}{cn ct:Nat->Nat->Nat->Wt} (hC:DZ Q w B gi gn gq i k nm ta) (hK:Mr Q w B i k cn ct) (Es:Fl cn) (hct:Fl ct) (hnm:FX nm) (hta:FX ta) (hB:B<=w.heap.size) (hik:i<=k) (hk:k<=Q.row.length):
  Calls Tryz.prog 218 #[ac Q.wb,.agg #[ae gn Q.T.N.nN Q.T.N.nN,ae gq Q.yQ.length Q.yQ.length],ab i,ab k] w λe w'=>∃(low:Bool) (nm' y9:Nat->Wt),e=.returned (.bool low)/\DZ Q w' B gi gn gq i k nm' y9/\A1 w w' [gn,gq]/\wR Q i k cn ct nm ta nm' y9/\
   (low=false->nm'=nm/\I8 Q.T.N (BJ Q.yQ) Q.row cn ct i k nm y9 0/\∀n q,FJ Q.hds n q->zq (nm n) (named (y9 q)))/\(low=true->Fm Q.T.N.nN nm'<Fm Q.T.N.nN nm):=by
 have c3:w.cell? (af Q.wb 3)=some (ae Q.gt Q.yQ.length Q.ct):=(A0 hQ.blk).trans rfl;have c4:w.cell? (af Q.wb 4)=some (ae Q.gh Q.T.N.nN Q.ch):=(A0 hQ.blk).trans rfl;have Sv:=hC.Od;have Iw:=hC.Qo;have Us:=hC.Uq;have Ye:=hC.Oe;have aco:=hC.Qp;have Au:=hQ.zG;have Xj:=hQ.Mp;have Hu:=hQ.Em;have Bk:=hQ.Ql;have Oc:=hQ.Qm;have zU:=hQ.tab.fc.gr.Bt;have HQ:Hid (∀V,Below B w V->Q.In V):=hid λV hb=>hQ.below (hb.mono (by omega))
 have HK:Hid (∀V,Below B w V->Mr Q V B i k cn ct):=hid λV hb=>hK.below hb Sv
 have HC0:=hid hC;have Wh:Hid (FX nm/\FX ta):=hid ⟨hnm,hta⟩;have HS:Hid (∀V (ta1:Nat->Wt) (j q:Nat) (p:Pt),Below B w V->B<=V.heap.size->DZ Q V B gi gn gq i k nm ta1->FX ta1->i<=j->j<=k->Q.yQ[q]?=some (some p)->Calls Tryz.prog 234 #[ac Q.wb,ab q,ab i,ab j,ab k] V λe w'=>e=.returned (Bz (ES Q.T.N Q.row cn ct i k nm ta1 p q j))/\Below V.heap.size V w'):=hid λV ta1 j q p hb hBV hc hs h1 h2 hq=>by
  have hKV:=hK.below hb Sv;unfold ES;exact RH (cn:=AK cn i k nm) (ct:=AK ct i k ta1) (hQ.below (hb.mono (by omega))) (B:=V.heap.size) hq (MM Mc hq).1 h1 h2 hk (λn e=>vL hKV hc hBV hk h1 h2) (wO hKV hc hBV hk h1 h2) (yF _)
   (TF hQ.tab.fc.gr.ok hQ.rl hQ.Em (Es.put hnm i k) (hQ.Up q p hq) i j) (by have:=(hct.put hs i k) (q+1) j k;unfold AC FZ at this;exact⟨by omega,this.2⟩)
 have Ut:=hid Mc;obtain⟨nQ,Dw⟩:=qF (Q.yQ.length);obtain⟨nN,yY⟩:=qF (Q.T.N.nN);have Mt:=hid Dw;have Ec:=hid yY;rw[<-Dw]at c3 Bk Oc ⊢;rw[<-yY]at c4 zU ⊢;clear hQ hC hK Es hct hnm hta Mc Dw yY;refine(mq (n:=4)).1 ?_;refine qg Tryz.func218 rfl trivial ?_ rfl;simp only[Tryz.ntmps218,iz,lC,iw,Nat.reduceAdd,Nat.reduceSub,jg,jh,ju,jo,eu,ig];have c3':((((w.alloc (.cells #[ac Q.wb] 270)).alloc (.cells #[ae gn nN nN,ae gq nQ nQ] 351)).alloc (.cells #[ab i] 3)).alloc (.cells #[ab k] 3)).cell? (af Q.wb 3)=some (ae Q.gt nQ Q.ct):=A2 _ (A2 _ (A2 _ (A2 _ c3)))
 gi_wp2_with (refine⟨trivial,?_⟩;gi_at_call 235;refine(s8 Fence.wide 3 trivial rfl _ _ _ _).mono ?_;rintro e w1 ⟨rfl,rfl⟩)
 obtain⟨W0,hW0⟩:=qE (((((w.alloc (.cells #[ac Q.wb] 270)).alloc (.cells #[ae gn nN nN,ae gq nQ nQ] 351)).alloc (.cells #[ab i] 3)).alloc (.cells #[ab k] 3)).alloc (.cells #[ae Q.gt nQ Q.ct] 303));have hs0:W0.heap.size=w.heap.size+5:=by rw[<-hW0];simp
 have hk0:A1 w W0 []:=by rw[<-hW0];exact(((((A1.refl w []).alloc _).alloc _).alloc _).alloc _).alloc _
 have Iu:RF W0 w.heap.size Q.wb gn nN gq nQ i k/\W0.cell? (af (w.heap.size+4) 0)=some (ae Q.gt nQ Q.ct):=by
  rw[<-hW0];refine⟨⟨?_,?_,?_,?_⟩,?_⟩
  ·exact(dm _ _ _ yM).trans ((dm _ _ _ yM).trans ((dm _ _ _ yM).trans ((dm _ _ _ (by simp)).trans (ay w _))))
  ·refine(dm _ _ _ (by simp)).trans ((dm _ _ _ (by simp)).trans ((dm _ _ _ (by simp)).trans ?_))
   exact P3 w _ _ _ _
  ·refine(dm _ _ _ (by simp)).trans ((dm _ _ _ (by simp)).trans ?_)
   have h:=ay ((w.alloc (.cells #[ac Q.wb] 270)).alloc (.cells #[ae gn nN nN,ae gq nQ nQ] 351)) (.cells #[ab i] 3)
   rwa [bg,bg]at h
  ·refine(dm _ _ _ (by simp)).trans ?_
   have h:=ay (((w.alloc (.cells #[ac Q.wb] 270)).alloc (.cells #[ae gn nN nN,ae gq nQ nQ] 351)).alloc (.cells #[ab i] 3)) (.cells #[ab k] 3)
   rwa [bg,bg,bg]at h
  ·have h:=GL ((((w.alloc (.cells #[ac Q.wb] 270)).alloc (.cells #[ae gn nN nN,ae gq nQ nQ] 351)).alloc (.cells #[ab i] 3)).alloc (.cells #[ab k] 3)) (ae Q.gt nQ Q.ct) 303
   rw[bg,bg,bg,bg]at h;exact h
 rw[hW0];clear hW0 c3';obtain⟨hbR,hbS⟩:=Iu;have agp:Below B w W0:=hk0.below hB (λq h=>by cases h);have acp:=hid agp;have Oi:Hid (DZ Q W0 B gi gn gq i k nm ta):=hid (HC0.out.keeps hk0 hB (λq h=>by cases h));have HBR:=hid hbR;refine wpIn_rangeFunc_ownH (F:=Fence.wide) rfl (by omega) (gf:=245) (lb:= #[ac (w.heap.size+4)]) rfl trivial (qo Tryz.func245 yg rfl)
  (dI 3 (by omega) (w.heap.size+4) nQ (by omega) (i7 Q.yQ) (FG B (w.heap.size+4)) (λW=>Q.In W/\W.cell? (af (w.heap.size+4) 0)=some (ae Q.gt nQ Q.ct))
   (λA C hQ hK=>⟨hQ.1.below (hK.1.mono (by omega)),(jd hK.2).trans hQ.2⟩) (λW hQ=>by have h:=hQ.2;rw[Mt.out]at h ⊢;exact gW hQ.1 h) W0
   (λW hW=>⟨HQ.out W (acp.out.trans (hW.mono (by omega))),(hW.cell (by show w.heap.size+4<W0.heap.size;omega)).trans hbS⟩))
  FG.trans (FG.put (by omega) (by omega)) (ah _ _) (λ_=>rfl)
  (fun(pre:List (BX nQ (i7 Q.yQ))) W=>∃y9,DZ Q W B gi gn gq i k nm y9/\A1 W0 W [gq]/\wR Q i k cn ct nm ta nm y9/\(TJ nQ (pre.map (·.1.1))->I8 Q.T.N (BJ Q.yQ) Q.row cn ct i k nm y9 (nQ - pre.length)))
  (λ_ _ _=>False) ?own (λ_ _ _ _ _ hs _ _=>hs) ⟨ta,Oi.out,A1.refl _ _,⟨λh=>h,Wh.out⟩,λ_ q p ps h1 h2=>by
   exfalso
   rcases RQ Ut.out h2 with⟨h3,_⟩ | ⟨_,_,_,h3⟩
   ·cases h3
   ·have:=(yS.1 h3).1
    have:=Mt.out;simp at h1;omega⟩
  (λy a' W=>∃pb o,Q.yQ[y.1.1]?=some o/\W0.heap.size<=pb/\pb<W.heap.size/\W.heap[pb]?=some (.cells #[.bool o.isNone,.bool (LX o),ab (M2 o)] 346 (0,0))/\a'= {tmps:= #[ac Q.wb,.agg #[ae gn nN nN,ae gq nQ nQ],ab i,ab k,ac w.heap.size,ac (w.heap.size+1),ac (w.heap.size+2),ac (w.heap.size+3),.bool false,ab (y.1.1:Int),ac pb,undef,undef,undef,undef,ac Q.wb,ac Q.wb,.pointer (some (af Q.wb 3)),ae Q.gt nQ Q.ct,.func (.func 245) #[] #[ac (w.heap.size+4)],ab (y.1.1:Int),y.1.2,undef,undef,undef,undef,undef,undef,undef,undef,undef,undef,undef,undef,undef,undef,undef,undef,undef,undef,undef,undef,undef,undef,undef,undef,undef,undef,undef,undef,undef,undef,undef,undef,undef,undef,undef,undef,undef,undef,undef,undef,undef,undef,undef,undef,undef,undef,undef,undef,undef,undef,undef,undef,undef,undef,undef],defers:=[]})
  ?abh ?assign ?body ?done ?stop
 case own=>
  rintro pre A C row ⟨y9,h1,h2,h3,h4⟩ hg hr;have hk:A1 A C row.toList:=(A1.refl A row.toList).grown hg (λq e=>.inl Ld);exact⟨y9,h1.keeps hk (by have:=h2.size;omega) (λq hq=>by have:=(hr q (by simpa using hq)).1;omega),h2.grown hg (λr e=>.inr (hr r e).1),h3,h4⟩
 case abh=>
  rintro y a' _ A C row ⟨pb,o,ho,h1,h2,h3,h4⟩ hg hr;exact⟨pb,o,ho,h1,lL h2 hg.size,FT h3 hg (λr e=>(hr r e).2),h4⟩
 case assign=>
  rintro l pre ⟨⟨q,Cz⟩,hi1,hi2⟩ W K ⟨y9,h1,h2,h3,h4⟩ hK;simp only at hi1 hi2;obtain⟨o,ho,rfl⟩:=hi2;have hsz:=h2.size;have y7:A1 W (W.alloc (.cells #[.bool o.isNone,.bool (LX o),ab (M2 o)] 346)) []:=(A1.refl W []).alloc _;simp only[NY]
  gi_wp2
  exact hK _ _ ((KeepsOthers.alloc _ _).from _) (FG.keeps y7 (by omega) (by omega) (λq h=>by cases h)) ⟨y9,h1.keeps y7 (by omega) (λq h=>by cases h),h2.alloc _,h3,h4⟩ ⟨W.heap.size,o,ho,by omega,by rw[bg];omega,ay W _,rfl⟩
 case body=>
  rintro l pre ⟨⟨q,Cz⟩,hi1,hi2⟩ a' W hl ⟨r,hr⟩ ⟨y9,h1,h2,h3,h4⟩ ⟨pb,o,ho,Bu,Hy,Dy,rfl⟩ hlt;simp only at hi1 hi2 ho Dy ⊢;have hsz:=h2.size;have hBW:B<=W.heap.size:=by omega
  have hbW:Below B w W:=acp.out.trans (h2.below (by omega) (λq hq=>by rw[mS.1 hq];exact Iw));have Yf:RF W w.heap.size Q.wb gn nN gq nQ i k:=HBR.out.keeps h2 (λq hq=>by rw[mS.1 hq];omega);have Sw:W.cell? (af pb 0)=some (.bool o.isNone):=(A0 Dy).trans rfl;have agq:=hid h4;have H3:=hid h3;have hqL:q<Q.yQ.length:=by rw[<-Mt.out];exact hi1
  have Oh:=hid hqL;have hqi:((q:Int)< (nQ:Int)):=by omega
  have Oi:=hid h1;have Aa:=hid h2;have aaa:=hid hbW;have acr:=hid Yf;cases o with
  |none=>
   have Sw:W.cell? (af pb 0)=some (.bool true):=Sw;clear h1 h2 h3 h4 hbW Yf Dy
   gi_wp2
   refine⟨KeepsFrom.refl _ _,⟨ah _ _,rfl⟩,y9,Oi.out,Aa.out,H3.out,λhh=>?_⟩;rw[ew]at hh;obtain⟨h5,h6⟩:=hh.snoc;rw[lM]at h6;have h6:pre.length+q+1=nQ:=h6;have h7:=agq.out h5;rw[lA,ey];rw[show nQ - pre.length=q+1 by omega]at h7;rw[show nQ - (pre.length+1)=q by omega];exact h7.skip (λp ps e=>by rw[gQ ho]at e;cases e)
  |some p=>
   have Sw:W.cell? (af pb 0)=some (.bool false):=Sw;have agr:=hid Oi.out;have ags:=hid Aa.out;have agt:Hid (FX y9):=hid H3.out.sm.2;clear h1 h2 h3 h4 hbW Yf Dy
   gi_wp2
   have cB1:W.cell? (af w.heap.size 0)=some (ac Q.wb):=(A0 acr.out.1).trans rfl;have cP1:W.cell? (af (w.heap.size+1) 1)=some (ae gq nQ nQ):=(A0 acr.out.2.1).trans rfl;have cI1:W.cell? (af (w.heap.size+2) 0)=some (ab i):=(A0 acr.out.2.2.1).trans rfl;have cK1:W.cell? (af (w.heap.size+3) 0)=some (ab k):=(A0 acr.out.2.2.2).trans rfl;have agu:=hid (HS.out W.drew y9 i q p (aaa.out.drew) (by show B<=W.heap.size;have:=aaa.out.size;omega) (agr.out.keeps (A1.refl W []).drew ac0 (λq h=>by cases h)) agt.out (yF _) hik ho);obtain⟨Y1,hY1⟩:=qE (ES Q.T.N Q.row cn ct i k nm y9 p q i);rw[hY1]at agu;have Un:=hid hY1;clear hY1;have alq:W0.heap.size<=W.heap.size:=ags.out.size;refine GB (S:=λw'=>w'.cell? (af w.heap.size 0)=some (ac Q.wb)/\w'.cell? (af (w.heap.size+1) 1)=some (ae gq nQ nQ)/\w'.cell? (af (w.heap.size+2) 0)=some (ab i)/\w'.cell? (af (w.heap.size+3) 0)=some (ab k)) hmx yg Ka ⟨cB1,cP1,cI1,cK1⟩ (λhH=>?_)
   refine tB 0 hH ?_;refine tB 1 hH ?_;refine tB 2 hH ?_;refine tB 3 hH ?_;refine tB 4 hH ?_;refine tB 5 hH ?_;refine tB 6 hH ?_;refine tB 7 hH ?_;refine tB 8 hH ?_;refine tL ?_;refine tS 9 λK hK=>?_
   refine tM ?_;rw[aq (by rfl)];go_simp;refine agu.out.mono ?_;rintro e v1 ⟨rfl,yZ⟩;refine hK.out _ _ ?_ λhH=>?_
   ·exact⟨(yZ.cell acV).trans hH.1,(yZ.cell (by show w.heap.size+1<W.heap.size;omega)).trans hH.2.1,(yZ.cell (by show w.heap.size+2<W.heap.size;omega)).trans hH.2.2.1,(yZ.cell (by show w.heap.size+3<W.heap.size;omega)).trans hH.2.2.2⟩
   clear hK K;refine tL ?_;have acs:Below W.heap.size W v1:=(ah _ W).drew.trans yZ;have alr:W.heap.size<=v1.heap.size:=acs.size;have ai9:=hid (agr.out.keeps (A1.yX acs []) ac0 (λq h=>by cases h));have aja:=hid acs;clear yZ acs;refine tS 10 λK hK=>?_
   refine tM ?_;rw[aq (by rfl)];go_simp;refine(TD ai9.out ac0 Oh.out Y1).mono ?_;rintro e w8 ⟨rfl,Uu,Bo⟩;refine hK.out _ _ ?_ λhH=>?_
   ·exact⟨(Bo.cell (by show w.heap.size<v1.heap.size;omega) yM).trans hH.1,(Bo.cell (by show w.heap.size+1<v1.heap.size;omega) yM).trans hH.2.1,(Bo.cell (by show w.heap.size+2<v1.heap.size;omega) yM).trans hH.2.2.1,(Bo.cell (by show w.heap.size+3<v1.heap.size;omega) yM).trans hH.2.2.2⟩
   clear hK K;refine tL ?_;refine bk yg ?_ _;clear hH;have Fi:Hid (A1 W w8 [gq]):=hid ((A1.yX aja.out _).trans Bo);have ajb:=hid Uu;clear Uu Bo cB1 cP1 cI1 cK1;have agv:=hid ajb.out;have adX:Hid (A1 W0 w8 [gq]):=hid (ags.out.trans Fi.out);have ac2:Hid (Below B w w8):=hid (acp.out.trans (adX.out.below (by omega) (λq hq=>by rw[mS.1 hq];exact Iw)));have acu:Hid (RF w8 w.heap.size Q.wb gn nN gq nQ i k):=hid (HBR.out.keeps adX.out (λq hq=>by rw[mS.1 hq];omega));have agw:Hid (FX (AY y9 q (BK (y9 q) Y1))):=hid (agt.out.set q (by rw[<-Un.out];exact NL _ _))
   gi_wp2
   have cB2:w8.cell? (af w.heap.size 0)=some (ac Q.wb):=(A0 acu.out.1).trans rfl;have cP2:w8.cell? (af (w.heap.size+1) 1)=some (ae gq nQ nQ):=(A0 acu.out.2.1).trans rfl;have cI2:w8.cell? (af (w.heap.size+2) 0)=some (ab i):=(A0 acu.out.2.2.1).trans rfl;have cK2:w8.cell? (af (w.heap.size+3) 0)=some (ab k):=(A0 acu.out.2.2.2).trans rfl;have agx:=hid (HS.out w8.drew (AY y9 q (BK (y9 q) Y1)) k q p (ac2.out.drew) (by show B<=w8.heap.size;have:=ac2.out.size;omega) (agv.out.keeps (A1.refl w8 []).drew ac1 (λq h=>by cases h)) agw.out hik (yF _) ho);obtain⟨Y2,hY2⟩:=qE (ES Q.T.N Q.row cn ct i k nm (AY y9 q (BK (y9 q) Y1)) p q k);rw[hY2]at agx;have HY2:=hid hY2;clear hY2;have als:W0.heap.size<=w8.heap.size:=adX.out.size;refine GB (S:=λw'=>w'.cell? (af w.heap.size 0)=some (ac Q.wb)/\w'.cell? (af (w.heap.size+1) 1)=some (ae gq nQ nQ)/\w'.cell? (af (w.heap.size+2) 0)=some (ab i)/\w'.cell? (af (w.heap.size+3) 0)=some (ab k)) hmx yg Ka ⟨cB2,cP2,cI2,cK2⟩ (λhH=>?_)
   refine tB 0 hH ?_;refine tB 1 hH ?_;refine tB 2 hH ?_;refine tB 3 hH ?_;refine tB 4 hH ?_;refine tB 5 hH ?_;refine tB 6 hH ?_;refine tB 7 hH ?_;refine tB 8 hH ?_;refine tL ?_;refine tS 9 λK hK=>?_
   refine tM ?_;rw[aq (by rfl)];go_simp;refine agx.out.mono ?_;rintro e v2 ⟨rfl,yZ⟩;refine hK.out _ _ ?_ λhH=>?_
   ·exact⟨(yZ.cell (by show w.heap.size<w8.heap.size;omega)).trans hH.1,(yZ.cell (by show w.heap.size+1<w8.heap.size;omega)).trans hH.2.1,(yZ.cell (by show w.heap.size+2<w8.heap.size;omega)).trans hH.2.2.1,(yZ.cell (by show w.heap.size+3<w8.heap.size;omega)).trans hH.2.2.2⟩
   clear hK K;refine tL ?_;have acv:Below w8.heap.size w8 v2:=(ah _ w8).drew.trans yZ;have alu:w8.heap.size<=v2.heap.size:=acv.size;have ajc:=hid (agv.out.keeps (A1.yX acv []) ac1 (λq h=>by cases h));have ajd:=hid acv;clear yZ acv;refine tS 10 λK hK=>?_
   refine tM ?_;rw[aq (by rfl)];go_simp;refine(TD ajc.out ac1 Oh.out Y2).mono ?_;rintro e w9 ⟨rfl,Uu,Bo⟩;refine hK.out _ _ ?_ λhH=>?_
   ·exact⟨(Bo.cell (by show w.heap.size<v2.heap.size;omega) yM).trans hH.1,(Bo.cell (by show w.heap.size+1<v2.heap.size;omega) yM).trans hH.2.1,(Bo.cell (by show w.heap.size+2<v2.heap.size;omega) yM).trans hH.2.2.1,(Bo.cell (by show w.heap.size+3<v2.heap.size;omega) yM).trans hH.2.2.2⟩
   clear hK K;refine tL ?_;refine bk yg ?_ _;clear hH;have Ak:Hid (A1 w8 w9 [gq]):=hid ((A1.yX ajd.out _).trans Bo);have aje:=hid Uu;clear Uu Bo cB2 cP2 cI2 cK2;have hE:AY (AY y9 q (BK (y9 q) Y1)) q (BK (AY y9 q (BK (y9 q) Y1) q) Y2)=AY (AY y9 q (BK (y9 q) Y1)) q (BK (BK (y9 q) Y1) Y2):=by rw[MO]
   have ajf:Hid (DZ Q w9 B gi gn gq i k nm (AY (AY y9 q (BK (y9 q) Y1)) q (BK (BK (y9 q) Y1) Y2))):=hid (by rw[<-hE];exact aje.out);clear hE
   gi_wp2
   obtain⟨Ev,ps,alv,adY⟩:=MM Ut.out ho;have hEq:AY (AY y9 q (BK (y9 q) Y1)) q (BK (BK (y9 q) Y1) Y2)=AY y9 q (BK (BK (y9 q) Y1) Y2):=bB _ _ _ _;have hK9:A1 W w9 [gq]:=Fi.out.trans Ak.out;refine⟨KeepsFrom.Kk hK9 (λq hq=>by rw[mS.1 hq];omega),FG.keeps hK9 hBW (by omega) (λq hq=>by rw[mS.1 hq];exact⟨Iw,by omega⟩),_,ajf.out,Aa.out.trans hK9,⟨λhm=>?_,Wh.out.1,?_⟩,λhh=>?_⟩
   ·have m1:=(H3.out.mid hm).tail adY (yF i) hik
    rw[Un.out]at m1;have m2:=m1.tail adY hik (yF k);rw[HY2.out,MO]at m2;exact m2
   ·have:=agw.out.set q (b:=Y2) (by rw[<-HY2.out];exact NL _ _)
    rw[MO]at this;exact this
   ·rw[ew]at hh
    obtain⟨h5,h6⟩:=hh.snoc;rw[lM]at h6;have h6:pre.length+q+1=nQ:=h6;have h7:=agq.out h5;rw[lA,ey];rw[show nQ - pre.length=q+1 by omega]at h7;rw[show nQ - (pre.length+1)=q by omega];refine h7.step adY (λm hm=>?_) ?_
    ·unfold AY;rw[au hm,au hm]
    ·rw[MO,Un.out]
     congr 1
     rw[<-HY2.out];exact LW (by unfold AY;rw[au (by omega)])
 case done=>
  rintro D ys W hD hys ⟨y9,h1,h2,h3,h4⟩ hKD;have agy:I8 Q.T.N (BJ Q.yQ) Q.row cn ct i k nm y9 0:=by
   have hl:=congrArg List.length hys;simp at hl;have h5:=h4 ⟨0,by rw[hys];simp⟩;rw[hl,kq]at h5;exact h5
  have hsz:=h2.size;have hBW:B<=W.heap.size:=by omega
  have hbW:Below B w W:=acp.out.trans (h2.below (by omega) (λq hq=>by rw[mS.1 hq];exact Iw));have Yf:RF W w.heap.size Q.wb gn nN gq nQ i k:=HBR.out.keeps h2 (λq hq=>by rw[mS.1 hq];omega);have Fz:=HQ.out W hbW;have c4W:W.cell? (af Q.wb 4)=some (ae Q.gh nN Q.ch):=(hbW.cell (by show Q.wb<B;omega)).trans c4;have cBW:W.cell? (af w.heap.size 0)=some (ac Q.wb):=(A0 Yf.1).trans rfl;have HE:=hid agy;have H3:=hid h3;have HC:=hid h1;have Ug:Hid (A1 w W [gq]):=hid ((hk0.mono (λq h=>by cases h)).trans h2);have ajg:=hid Yf;have HbW:=hid hbW;have adZ:Q.gh<Q.gp:=Fz.ghl;have hhl:Q.hds.length=nN:=by rw[Ec.out];exact Fz.hl
  have HHd:Hid (∀(n:Nat) (l:List Nat),Q.hds[n]?=some l->(∃v,W.cell? (af Q.gh n)=some v/\Cw W Q.gp v l)/\l.length<=60/\∀q∈l,q<Q.yQ.length):=hid λn l hl=>⟨Fz.hdc n l hl,Fz.Jb n l hl⟩
  have hch:nN<=Q.ch:=by rw[Ec.out];exact Fz.chl
  have hDW:D<W.heap.size:=(mh.1 hKD).1;have HKD:=hid hKD;clear h1 h2 h3 h4 agy hys hbW Yf Fz hKD hk0 agp hbR
  gi_wp2
  gi_loopw [8,52] (λlv z wr=>∃(low:Bool) (n:Nat) (nm':Nat->Wt),n<=nN/\lv=.bool low/\z=ab n/\Hid (DZ Q wr B gi gn gq i k nm' y9)/\Hid (A1 W wr [gn])/\Hid ((Ga Q.T.N (BJ Q.yQ) (FJ Q.hds) Q.row cn ct i k nm y9->Ga Q.T.N (BJ Q.yQ) (FJ Q.hds) Q.row cn ct i k nm' y9)/\FX nm')/\Hid ((low=false->nm'=nm/\∀n' q,n'<n->FJ Q.hds n' q->zq (nm n') (named (y9 q)))/\(low=true->Fm nN nm'<Fm nN nm))) (λ_ z _=>nN - (intOf z).toNat)
  case atStart=>exact⟨false,0,nm,bu _,rfl,rfl,HC,hid (A1.refl _ _),hid ⟨λh=>h,Wh.out.1⟩,hid ⟨λ_=>⟨rfl,λn' q h _=>by omega⟩,λh=>by cases h⟩⟩
  case round=>
   obtain⟨low,n,nm',hn,rfl,rfl,hcv,y7,Ee,Ad⟩:=hrel
   by_cases hlt:n<nN
   ·obtain⟨l,hl⟩:∃l,Q.hds[n]?=some l:=⟨_,gE (by rw[hhl];exact hlt)⟩
    obtain⟨⟨v,cv,Ai⟩,ad0,Li⟩:=HHd.out n l hl;obtain⟨adh,ajh,rfl,aji,hhc⟩:=Ai;have cvr:wr.cell? (af Q.gh n)=some (.slice adh l.length ajh):=(y7.out.cell (by show Q.gh<W.heap.size;omega) yM).trans cv;obtain⟨nl,Ig⟩:=qE (l.length);rw[Ig]at cvr aji hhc ad0;have HL:Hid (l.length=nl/\Q.hds[n]?=some l/\∀q∈l,q<Q.yQ.length):=hid ⟨Ig,hl,Li⟩;have HHc:=hid hhc;clear cv Ig hl Li hhc
    gi_wp2
    gi_loopw [8,59] (λlv z wn=>∃(low:Bool) (h:Nat) (nm':Nat->Wt),h<=nl/\lv=.bool low/\z=ab h/\Hid (DZ Q wn B gi gn gq i k nm' y9)/\Hid (A1 W wn [gn])/\Hid ((Ga Q.T.N (BJ Q.yQ) (FJ Q.hds) Q.row cn ct i k nm y9->Ga Q.T.N (BJ Q.yQ) (FJ Q.hds) Q.row cn ct i k nm' y9)/\FX nm')/\Hid ((low=false->nm'=nm/\(∀n' q,n'<n->FJ Q.hds n' q->zq (nm n') (named (y9 q)))/\∀q∈l.take h,zq (nm n) (named (y9 q)))/\(low=true->Fm nN nm'<Fm nN nm))) (λ_ z _=>nl - (intOf z).toNat)
    case atStart=>exact⟨low,0,nm',bu _,rfl,rfl,hcv,y7,Ee,hid ⟨λh=>⟨(Ad.out.1 h).1,(Ad.out.1 h).2,λq hq=>by simp at hq⟩,Ad.out.2⟩⟩
    case round=>
     clear hcv y7 Ee Ad cvr;obtain⟨low,h,nm',hh,rfl,rfl,hcv,y7,Ee,Ad⟩:=hrel
     by_cases hlh:h<nl
     ·obtain⟨q,hq⟩:∃q,l[h]?=some q:=⟨_,gE (by rw[HL.out.1];exact hlh)⟩
      have hqm:q∈l:=mG hq;have Yc:q<nQ:=by rw[Mt.out];exact HL.out.2.2 q hqm
      obtain⟨g,off,rfl,Bf,Fj⟩:=HHc.out (by omega);have cq:wr.cell? (af g (off+h))=some (ab q):=(y7.out.cell (by show g<W.heap.size;omega) yM).trans (Fj h q hq);have Tt:=y7.out.size;have Ed:B<=wr.heap.size:=by omega
      have ad4:RF wr w.heap.size Q.wb gn nN gq nQ i k:=ajg.out.keeps y7.out (λq hq=>by rw[mS.1 hq];omega);have cP0:wr.cell? (af (w.heap.size+1) 0)=some (ae gn nN nN):=(A0 ad4.2.1).trans rfl;have cP1:wr.cell? (af (w.heap.size+1) 1)=some (ae gq nQ nQ):=(A0 ad4.2.1).trans rfl;obtain⟨Xg,Xh⟩:=hcv.out.tac q (HL.out.2.2 q hqm);have aar:=H3.out.sm.2 q;unfold AC FZ at aar;obtain⟨t1,Et⟩:=qE ((y9 q).1);obtain⟨t2,Gj⟩:=qE ((y9 q).2);rw[Et]at Xg aar;rw[Gj]at Xh aar;obtain⟨alw,aar⟩:=aar;have Kj:Hid (∀V,Calls Tryz.prog 222 #[.agg #[ab t1,ab t2]] V λe w'=>e=.returned (Bz (named (t1,t2)))/\Below V.heap.size V w'):=hid λV=>VC t1 t2 (by omega) aar V
      obtain⟨Y,hY⟩:=qE (named (t1,t2));have HY:Hid (named (y9 q)=Y):=hid (by rw[<-hY,<-Et,<-Gj]);rw[hY]at Kj;have HQM:Hid (FJ Q.hds n q/\l[h]?=some q):=hid ⟨⟨l,HL.out.2.1,hqm⟩,hq⟩;have hqi:((q:Int)< (nQ:Int)):=by omega
      have hni:((n:Int)< (nN:Int)):=by omega
      have HhN:Hid (n<Q.T.N.nN):=hid (by rw[<-Ec.out];exact hlt);clear ad4 hq hqm Fj Et Gj hY
      gi_wp2
      refine KD ((xe (n:=4)).2 ?_);refine dn (S:=λw'=>w'.cell? (af (w.heap.size+1) 0)=some (ae gn nN nN)/\w'.cell? (af (w.heap.size+1) 1)=some (ae gq nQ nQ)/\w'.cell? (af gq (q*2))=some (ab t1)/\w'.cell? (af gq (q*2+1))=some (ab t2)) yg ⟨cP0,cP1,Xg,Xh⟩ (λhH=>?_);refine tB 0 hH ?_;refine tB 1 hH ?_;refine tB 2 hH ?_;refine tB 3 hH ?_;refine tB 4 hH ?_;refine tB 5 hH ?_;refine tB 6 hH ?_;refine tB 7 hH ?_;refine tB 8 hH ?_;refine tL ?_;refine tS 9 λK hK=>?_
      refine tM ?_
      go_simp;refine(Kj.out _).mono ?_;rintro e w6 ⟨rfl,yZ⟩;try dsimp only
      refine hK.out _ _ ?_ λhH=>?_
      ·exact⟨(yZ.cell (by show w.heap.size+1<wr.heap.size;omega)).trans hH.1,(yZ.cell (by show w.heap.size+1<wr.heap.size;omega)).trans hH.2.1,(yZ.cell (by show gq<wr.heap.size;omega)).trans hH.2.2.1,(yZ.cell (by show gq<wr.heap.size;omega)).trans hH.2.2.2⟩
      clear hK K;refine tL ?_;have acw:Below wr.heap.size wr w6:=(ah _ wr).drew.trans yZ;have Uf:=acw.size;have HC6:=hid (hcv.out.keeps (A1.yX acw []) Ed (λq h=>by cases h));have Co:=hid acw;have hne:gq≠gn:=xP hcv.out.ne;clear yZ acw;refine tS 10 λK hK=>?_
      refine tM ?_
      go_simp;refine(sE HC6.out (by omega) HhN.out Y).mono ?_;rintro e w7 ⟨rfl,Uu,Bo⟩;try dsimp only
      refine hK.out _ _ ?_ λhH=>?_
      ·exact⟨(Bo.cell (by show w.heap.size+1<w6.heap.size;omega) yM).trans hH.1,(Bo.cell (by show w.heap.size+1<w6.heap.size;omega) yM).trans hH.2.1,(Bo.cell (by show gq<w6.heap.size;omega) aaB).trans hH.2.2.1,(Bo.cell (by show gq<w6.heap.size;omega) aaB).trans hH.2.2.2⟩
      clear hK K;refine tL ?_;refine bk yg ?_ _;have HC7:=hid Uu;have HK7:Hid (A1 W w7 [gn]):=hid ((y7.out.trans (A1.yX Co.out _)).trans Bo);have hyh:Y.2<=FZ:=by rw[<-HY.out];exact NL _ _
      have ad5:Hid (FX (AY nm' n (BK (nm' n) Y))):=hid (Ee.out.2.set n hyh);have ad6:Hid (Ga Q.T.N (BJ Q.yQ) (FJ Q.hds) Q.row cn ct i k nm y9->Ga Q.T.N (BJ Q.yQ) (FJ Q.hds) Q.row cn ct i k (AY nm' n (BK (nm' n) Y)) y9):=hid λhm=>by
       have:=(Ee.out.1 hm).name HQM.out.1;rw[HY.out]at this;exact this
      have hmu:zG Y (nm' n)->Fm nN (AY nm' n (BK (nm' n) Y))<Fm nN nm':=λhw=>tH hlt hyh hw
      have ad7:Fm nN nm'<=Fm nN nm:=by
       cases low with
       |false=>rw[(Ad.out.1 rfl).1];exact yF _
       |true=>exact qb (Ad.out.2 rfl)
      clear hH Uu Bo cP0 cP1 Xg Xh;refine FA (Q:=λ_ _ _=>False) ?_;obtain⟨bw,y6⟩:=qE (decide (zG Y (nm' n)));rw[y6];cases bw
      case true=>
       have hw:zG Y (nm' n):=kf y6;clear y6;have HMu:=hid (lL (hmu hw) ad7);clear hw hmu ad7 hyh
       gi_wp2
       go_roundw
       case rel=>exact⟨true,h+1,_,by omega,rfl,by go_num,HC7,HK7,hid ⟨ad6.out,ad5.out⟩,hid ⟨λh=>(by cases h),λ_=>HMu.out⟩⟩
       case measure=>simp[intOf];omega
      case false=>
       have hw:¬zG Y (nm' n):=of_decide_eq_false y6;clear y6;have hsame:AY nm' n (BK (nm' n) Y)=nm':=by rw[LA,au hw];funext m;unfold AY;split <;> simp_all
       have Yg:Hid (zq (nm' n) Y):=hid (gI hw);rw[hsame]at HC7 ad5 ad6;clear hw hmu ad7 hyh hsame
       gi_wp2
       go_roundw
       case rel=>exact⟨low,h+1,nm',by omega,rfl,by go_num,HC7,HK7,hid ⟨ad6.out,ad5.out⟩,hid ⟨λhf=>⟨(Ad.out.1 hf).1,(Ad.out.1 hf).2.1,λx hx=>by
        rw[sy,HQM.out.2]at hx
        rcases gj.1 hx with hx |hx
        ·exact(Ad.out.1 hf).2.2 x hx
        ·have:x=q:=by simpa using hx
         subst this;rw[HY.out,<-(Ad.out.1 hf).1];exact Yg.out⟩,Ad.out.2⟩⟩
       case measure=>simp[intOf];omega
     ·have HH:Hid (h=nl):=hid (by omega)
      gi_wp2
      go_roundw
      case rel=>exact⟨low,n+1,nm',by omega,rfl,by go_num,hcv,y7,Ee,hid ⟨λhf=>⟨(Ad.out.1 hf).1,λn' q hn' hq=>by
       rcases jw n' n with h5 |h5
       ·exact(Ad.out.1 hf).2.1 n' q h5 hq
       ·obtain rfl:n'=n:=by omega
        obtain⟨l',hl',Bj⟩:=hq;rw[HL.out.2.1]at hl';injection hl' with hl'
        subst hl';exact(Ad.out.1 hf).2.2 q (by rw[HH.out,<-HL.out.1,mj];exact Bj)⟩,Ad.out.2⟩⟩
      case measure=>simp[intOf];omega
   ·have HNn:Hid (n=nN):=hid (by omega)
    have hDr:wr.heap[D]?=some (.deferred (some [])):=(y7.out.block D hDW yM).trans HKD.out;have HDr:=hid hDr;have Tt:=y7.out.size;clear hDr
    gi_wp2
    refine⟨by simp,.inl ⟨_,_,rfl,uo HDr.out,?_⟩⟩;have hkp:A1 wr (wr.putObj D (.deferred none)) [D]:=(A1.refl wr [D]).grown (qa _ D (.deferred none)) (λk e=>by cases e;exact .inl (by simp));refine⟨_,yE rfl _ _ _,low,nm',y9,rfl,hcv.out.keeps hkp (by omega) (λq h=>by have:=mS.1 h;omega),((Ug.out.mono (λq hq=>by simp[mS.1 hq])).trans (y7.out.mono (λq hq=>by simp[mS.1 hq]))).grown (qa _ D (.deferred none)) (λk e=>by cases e;exact .inr (by omega)),⟨λhm=>Ee.out.1 (H3.out.mid hm),Ee.out.2,H3.out.sm.2⟩,λhf=>⟨(Ad.out.1 hf).1,HE.out,λn' q hq=>(Ad.out.1 hf).2 n' q (by obtain⟨l',hl',_⟩:=hq;rw[HNn.out,<-hhl];exact(yS.1 hl').1) hq⟩,Ad.out.2⟩
 case stop=>
  rintro D c pre W _ _ h _;exact h.elim
end Go.Proofs.YtjjggdcnpndgjaaGreatDoor
