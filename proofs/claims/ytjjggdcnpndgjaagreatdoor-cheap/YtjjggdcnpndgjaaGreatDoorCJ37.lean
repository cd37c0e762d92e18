import Derived.Test.YtjjggdcnpndgjaaGreatDoorCJ36
set_option linter.unusedSimpArgs false
set_option maxHeartbeats 4000000
set_option maxRecDepth 100000
namespace Go.Proofs.YtjjggdcnpndgjaaGreatDoor
open Go.RowKit Go.Shelf
variable {B:Nat}{L:List Pt}{T:Am}{w w':World}
section
attribute [local go_sem] Oper.semAt_some
theorem kG (s:Nat):(BG s).length<=21:=zV (qy _ _) (by simp)
def I4 (zy:List ByteArray) (nT:Nat) (l:List Nat):List ByteArray:=l.map (D6 zy nT)
theorem WG (w:World) (n₀ fb kb:Nat) (N:NG) (zy:List ByteArray) (pg:List Nm) (yZ:Option Addr) (yT gN yQ:Nat) (k:List Fa) (h:Aw w n₀ fb kb N zy pg yZ yT gN yQ k) (hT:TabAt 1 Lib.deBruijn32tab w) (s:Nat) (hs:s<2 ^21) (hb:∀t,t∈BG s->t<=N.nT):
  Calls Tryz.prog 112 #[ac fb,.int .u32 s] w λe w'=>∃v,e=.returned v/\BL w' w.heap.size v (I4 zy N.nT (BG s))/\Below w.heap.size w w':=by
 obtain⟨i0,hi,hz0,hz1,hz2⟩:=iy Tryz.info9;have zW:=h.kn.lt;have hfw:=h.lf;have H:=hid h;have HT:=hid hT;have HB:=hid hb;have acT:1<w.heap.size:=bu _ _ (hT 0 (by decide));clear h hT hb;refine(nk (n:=4)).1 ?_;refine qw Tryz.func112 rfl trivial ?_ rfl;simp only[Tryz.ntmps112,jf,lC,jd,Nat.reduceAdd,Nat.reduceSub,jm,jo,jy,jr,ey,iw]
 gi_wp2_with (refine⟨trivial,?_⟩;gi_at_call 128;refine(YO Fence.wide 3 trivial rfl _ _).mono ?_;rintro e w' ⟨rfl,rfl⟩)
 have bf:=GX w (ac fb) 212;obtain⟨w1,hw1⟩:=qE (w.alloc (.cells #[ac fb] 212));have hs1:w1.heap.size=w.heap.size+1:=by rw[<-hw1,bh]
 have Hs:Hid (Below w.heap.size w w1):=hid (by rw[<-hw1];exact Aj (ah _ _));rw[hw1]at bf ⊢;rw[show w.heap.size+1=w1.heap.size from hs1.symm];have bO:=Boxed.new w1 39 (.slice none 0 0);obtain⟨w2,hw2⟩:=qE (w1.alloc (.cells #[.slice none 0 0] 39));have hs2:w2.heap.size=w1.heap.size+1:=by rw[<-hw2,bh]
 have hb2:Below w1.heap.size w1 w2:=by rw[<-hw2];exact Aj (ah _ _)
 rw[hw2]at bO ⊢;rw[show w1.heap.size+1=w2.heap.size from hs2.symm];have bS:=GX w2 (.int .u32 s) 214;obtain⟨w3,hw3⟩:=qE (w2.alloc (.cells #[.int .u32 s] 214));have hs3:w3.heap.size=w2.heap.size+1:=by rw[<-hw3,bh]
 have bO3:=bO.alloc (.cells #[.int .u32 s] 214);have hb3:Below w1.heap.size w1 w3:=by rw[<-hw3];exact hb2.alloc hb2.size _
 rw[hw3]at bS bO3 ⊢;have amu:w.heap.size+1<=w1.heap.size:=by omega
 have amv:w1.heap.size+1<=w2.heap.size:=by omega
 have amw:w2.heap.size+1<=w3.heap.size:=by omega
 clear hw1 hw2 hw3 hs1 hs2 hs3;have Xa:Hid (Aw w1 n₀ fb kb N zy pg yZ yT gN yQ k):=hid (H.out.below Hs.out);have fb0:=Xa.out.f0;have fb1:=Xa.out.f1;have abx:=Xa.out.lf;refine xm (F:=Fence.wide) rfl (by omega) (gf:=181) (lb:= #[ac w2.heap.size]) rfl trivial (rq Tryz.func181 yM rfl)
  (XX 3 (by omega) w2.heap.size w1.heap.size s hs (by omega) w3 (by omega) (TabAt.below (TabAt.below HT.out Hs.out (by omega)) hb3 (by omega)) bS) belowK_t (yK (by omega)) (ah _ _) (λ_=>rfl)
  (fun(pre:List (TI s)) W=>(∃v,Boxed W w1.heap.size 39 v/\W.ownsRow w1.heap.size 9 1 v (I4 zy N.nT (pre.map (·.1))).length (EE (I4 zy N.nT (pre.map (·.1))))/\True)/\Below w1.heap.size w1 W)
  (λ_ _ _=>False)
  (OwnFrom.and (Own.from (holdsRow_own w1.heap.size w1.heap.size 39 9 1 (fun(pre:List (TI s))=>(I4 zy N.nT (pre.map (·.1))).length) (fun(pre:List (TI s))=>EE (I4 zy N.nT (pre.map (·.1)))) (λ_ _=>True)) _) (ownFrom_below (zn _) (by omega)))
  (λ_ _ _ _ _ hs _ _=>hs)
  ⟨⟨_,bO3,jg _ _ _ _,trivial⟩,hb3⟩
  (λx=>{tmps:= #[ac fb,.int .u32 s,ac w.heap.size,undef,.slice none 0 0,ac w1.heap.size,ab (x.1:Int),.int .u32 s,.func (.func 181) #[] #[ac w2.heap.size],ab (x.1:Int),undef,undef,undef,undef,undef,undef,undef,undef,undef,undef],defers:=[]}) ?assign ?body ?done ?stop
 case assign=>
  intro l x W K hK;simp only[iZ]
  gi_wp2
  exact hK
 case stop=>
  rintro D c pre W _ _ h _;exact h.elim
 case done=>
  rintro D ys W hD hys ⟨⟨v,hv,hrow,_⟩,hB⟩ hK;have hc:=hv.cell;have hrow2:=ownsRow_putObj hrow (.deferred none) hK rfl;have hBW:=hB.trans (yK (w:=w1) (zn _) W D _ (.deferred none) (by omega) hK rfl rfl);have HR:=hid (And.intro hrow2 hBW);clear hrow hrow2 hBW hB
  gi_wp2
  refine⟨by simp,.inl ⟨_,_,rfl,uz hK,?_⟩⟩;refine⟨_,zm rfl _ _ _,v,rfl,?_,Hs.out.trans (HR.out.2.mono (by omega))⟩;have h1:=HR.out.1;rw[hys]at h1;exact BL.base h1 (by omega)
 case body=>
  rintro l pre ⟨t,ht⟩ W ⟨⟨v,hv,hrow,_⟩,hB⟩ hlt;simp only at hlt ⊢;have Lg:t<=N.nT:=HB.out t ht;have amx:=kG s;have hpl:(I4 zy N.nT (pre.map (·.1))).length<=21:=by unfold I4;rw[lM,lM];omega
  have ahw:=hB.size;have cF:=(hB.cell (p:=(af w.heap.size 0)) (by show w.heap.size<w1.heap.size;omega)).trans bf;have c0:=(hB.cell (p:=(af fb 0)) (by exact abx)).trans fb0;have c1:=(hB.cell (p:=(af fb 1)) (by exact abx)).trans fb1;have cV:=hv.cell;have hBl:=hv.lt;have HPW:Hid (Cz W.drew n₀ N zy pg yZ yT gN yQ):=hid (Xa.out.gr.below ((Cb hB).mono Xa.out.ln));have CW:=Q5 W.drew n₀ N zy pg yZ yT gN yQ HPW.out (by show n₀<=W.heap.size;have:=Xa.out.ln;omega) t Lg;have Li:=hid CW;have zL:Hid (Below w1.heap.size w1 W):=hid hB;have HV:=hid hv;have Dl:=hid hrow;have ahx:EE (I4 zy N.nT ((pre++ [(⟨t,ht⟩:TI s)]).map (·.1)))=EE (I4 zy N.nT (pre.map (·.1)))++ [.string (D6 zy N.nT t)]/\(I4 zy N.nT ((pre++ [(⟨t,ht⟩:TI s)]).map (·.1))).length=(I4 zy N.nT (pre.map (·.1))).length+1:=by
   unfold I4 EE;simp
  have HWD:=hid ahx;obtain⟨wd,hwd⟩:=qE (D6 zy N.nT t);rw[hwd]at Li HWD;obtain⟨kk,hkk⟩:=qE ((I4 zy N.nT (pre.map (·.1))).length);rw[hkk]at hpl Dl HWD;clear CW hB hv hrow ahx hwd hkk HPW Lg
  gi_wp2
  have hl2:w.heap.size<W.heap.size:=by omega
  have hlf:fb<W.heap.size:=by omega
  refine CV (λw'=>w'.cell? (af w1.heap.size 0)=some v/\w'.cell? (af w.heap.size 0)=some (ac fb)/\w'.cell? (af fb 0)=some (.slice yZ N.nT yT)/\w'.cell? (af fb 1)=some (ae gN N.nN yQ)) hmx yM Lv yM ⟨cV,cF,c0,c1⟩ (λhH=>?_);simp only[AG,BP,AR];refine tB 0 hH ?_;refine tB 1 hH ?_;refine tB 2 hH ?_;refine tB 3 hH ?_;refine tB 4 hH ?_;refine tB 5 hH ?_;refine tL ?_;refine tS 6 λK hK=>?_
  refine tM ?_;rw[ay (by rfl)];go_simp;refine Li.out.mono ?_;rintro e w6 ⟨rfl,zU⟩;refine hK.out _ _ ?_ λhH=>?_
  ·exact⟨(zU.cell (by exact hBl)).trans hH.1,(zU.cell (by exact hl2)).trans hH.2.1,(zU.cell (by exact hlf)).trans hH.2.2.1,(zU.cell (by exact hlf)).trans hH.2.2.2⟩
  clear hK K;refine tL ?_;have Tf:Below W.heap.size W w6:=(Cb (ah W.heap.size W)).trans zU;have amy:=Tf.size;have hv6:Boxed w6 w1.heap.size 39 v:=(Tf.block w1.heap.size hBl).trans HV.out;have Vk:w6.ownsRow w1.heap.size 9 1 v kk (EE (I4 zy N.nT (pre.map (·.1)))):=AC Dl.out (A5.zQ Tf []) (by simp);have Sn:=hv6.not_row (by decide) Vk;have hoff:∀g,g<w1.heap.size->some g≠v.ownBlock:=λg hg e=>by have:=(Vk.lt g e.symm).1;omega
  have ogF:=hoff w.heap.size (by omega);have ogf:=hoff fb abx;have HV6:=hid hv6;have adC:=hid Vk;have afc:=hid Tf;clear hv6 Vk Tf hoff zU;refine tS 7 λK hK=>?_
  refine tM ?_;go_simp;refine hK.out _ _ ?_ λhH=>?_
  ·exact⟨A6 _ hH.1,A6 _ hH.2.1,A6 _ hH.2.2.1,A6 _ hH.2.2.2⟩
  clear hK K;refine tL ?_;refine tS 8 λK hK=>?_
  refine tM ?_;rw[ay (by rfl)];refine mq _ (.tmp 10) (.tmp 17) 39 rfl w1.heap.size 9 i0 (.string ByteArray.empty) 1 16 Tryz.underlying39 hi hz0 hz1 hz2 rfl (by decide) v _ _ rfl (adC.out.alloc _) (af w6.heap.size 0) 1 1 [.string wd] rfl rfl (dn (fr:=(0,0)) (dz w6 _)) Gl (by omega) Bg (by omega) zG _ rfl ?_;intro g2 cap2 w7 hown hgrow hat Cu;refine hK.out _ _ ?_ λhH=>?_
  ·exact⟨(hgrow.cell_far _ zG (by exact Sn)).trans hH.1,(hgrow.cell_far _ zG (by exact ogF)).trans hH.2.1,(hgrow.cell_far _ zG (by exact ogf)).trans hH.2.2.1,(hgrow.cell_far _ zG (by exact ogf)).trans hH.2.2.2⟩
  clear hK K;refine tL ?_;refine tB 9 hH ?_;refine tL ?_;refine bq yM ?_ _;clear hH hat Cu;obtain⟨hv1,hv2,hr2,hk2,hb2⟩:=HV6.out.appended (by decide) adC.out (by omega) (zn _) hown hgrow;have hc1:=hv1.cell;have hf1:=hv1.frozen;have Up:=hid (And.intro hv2 (And.intro hr2 (And.intro hk2 hb2)));clear hv1 hv2 hr2 hk2 hb2 hown hgrow;show wpList _ _ _ _ _ _;go_wp2;refine⟨(KeepsFrom.Mg (S:=[]) (A5.zQ afc.out []) (λq h=>by cases h)).trans (Up.out.2.2.1.from _),(afc.out.mono ahw).trans Up.out.2.2.2,⟨_,Up.out.1,?_,trivial⟩,(zL.out.trans (afc.out.mono ahw)).trans Up.out.2.2.2⟩;rw[HWD.out.1,HWD.out.2];exact Up.out.2.1
end
section
attribute [local go_sem] Oper.semAt_some
theorem Qd.parts {v:Value} (h:Qd w B v L):D1 w w.heap.size v L.reverse:=by
 obtain⟨ad,cap,e,hc⟩:=h.form;refine⟨ad,cap,by rw[uk];exact e,by rw[uk];exact hc,λh0=>?_⟩;rw[uk]at h0;obtain⟨g,cap',e2,Bw,hg2,hg3⟩:=B4 h h0;rw[e]at e2;injection e2 with e3 _ e4
 subst e3;subst e4;subst e;refine⟨g,0,rfl,hg2,λi p hp=>?_⟩;have hi:=(zM.1 hp).1;rw[uk]at hi;have h1:=qq h (i*2) (by omega);have h2:=qq h (i*2+1) (by omega);have f0:=SL (λp=>[Value.bool (AW p),ab (AV p)]) (λ_=>rfl) L.reverse i p 0 hp (by omega);have f1:=SL (λp=>[Value.bool (AW p),ab (AV p)]) (λ_=>rfl) L.reverse i p 1 hp (by omega);rw[ju];exact⟨h1.trans f0,h2.trans f1⟩
def KG (T:Am):List Pt->Nat
 | []=>0
 |p::_=>(EK T.k p).1
theorem kR {t:Nat}:∀x,x∈BG (1<<<t)->x=t:=by
 intro x hx;have h1:=PS hx;rw[qx,xq]at h1;have h2:t=x:=by simpa using h1
 exact h2.symm
theorem uL  (hT:T.Ok) (Dx:T.N.nT<=20)  (hL:BE T.N L):KG T L<2 ^21/\∀t,t∈BG (KG T L)->t<=T.N.nT:=by
 match L with
 | []=>exact⟨by show(0:Nat)<2 ^21;decide,λt ht=>by have:=PS ht;simp[KG]at this⟩
 | .tok u::s=>
  have hu:u<T.N.nT:=hL.2 u (ew ..);exact⟨pX (by omega),λt ht=>by have:=kR t ht;omega⟩
 | .zi n::s=>
  have hn:n<T.N.nN:=hL.1 n (ew ..);refine⟨hT.fh n,λt ht=>?_⟩;have h1:(AQ T.k n).testBit t=true:=PS ht;have h2:t<=20:=by
   rcases jz 20 t with h |h
   ·exfalso
    have h3:=hT.fh n;have:(AQ T.k n).testBit t=false:=Nat.testBit_lt_two_pow (lL h3 (qg (by omega) (by omega)));rw[this]at h1;cases h1
   ·exact h
  rw[hT.Vx n t hn h2]at h1;cases h4:T.zH n t with
  |none=>rw[h4]at h1;cases h1
  |some rhs=>exact qp (hT.rl n t rhs h4).2.1
theorem o3  (hT:T.Ok) {p:Pt} (hp:JQ T.N p):(EK T.k p).2=false:=by
 cases p with
 |tok t=>rfl
 |zi n=>exact hT.nn n hp
theorem ahy {P:Prop} (h:P:=by
  have Rl:w.heap.size+1<W.heap.size:=bu _ _ cN;have hlB:w.heap.size<W.heap.size:=by omega
  have hwW:wk<W.heap.size:=by omega
  have hDl:D<W.heap.size:=(ng.1 hK).1;have Li:=hid (WG W.drew _ _ _ _ _ _ _ _ _ _ _ (Jk.out W.drew H2.out.drew).1.fc (Jk.out W.drew H2.out.drew).2 sx (by rw[<-HSX.out];exact HX.out.1) (λt ht=>HX.out.2 t (by rw[HSX.out];exact ht)))
  gi_wp2
  refine KQ ((xz (n:=4)).2 ?_);refine dy (S:=λw'=>w'.cell? (af w.heap.size 0)=some (ac wk)/\w'.cell? (af wk 0)=some (ac T.tb)/\w'.cell? (af (w.heap.size+1) 0)=some (.int .u32 sx)) yM ⟨cB,c0W,cN⟩ (λhH=>?_);refine tB 0 hH ?_;refine tB 1 hH ?_;refine tB 2 hH ?_;refine tB 3 hH ?_;refine tB 4 hH ?_;refine tB 5 hH ?_;refine tB 6 hH ?_;refine tL ?_;refine tS 7 λK hK=>?_
  refine tM ?_
  go_simp;refine Li.out.mono ?_;rintro e w7 ⟨u7,rfl,hu7,Eb⟩;try dsimp only
  refine hK.out _ _ ?_ λhH=>?_
  ·exact⟨(Eb.cell (by exact hlB)).trans hH.1,(Eb.cell (by exact hwW)).trans hH.2.1,(Eb.cell (by exact Rl)).trans hH.2.2⟩
  clear hK K;refine tB 8 hH ?_;refine tL ?_;refine bq yM ?_ _;have hK7:w7.heap[D]?=some (.deferred (some [])):=(Eb.block D hDl).trans hK;have HU:Hid (BL w7 w.heap.size u7 (I4 T.zy T.N.nT (BG (KG T L)))):=hid (by rw[HSX.out];exact BL.base hu7 acw);have Ml:Hid (Below w.heap.size w w7):=hid (H2.out.trans (((ah _ W).drew.trans Eb).mono acw));clear hH Eb hu7;refine FH (Q:=λ_ _ _=>False) ?_
  gi_wp2
  refine⟨by simp,.inl ⟨_,_,rfl,uz hK7,?_⟩⟩;exact⟨_,zm rfl _ _ _,u7,rfl,ownsRow_putObj HU.out (.deferred none) hK7 rfl,Ml.out.trans (yK (w:=w) (zn _) w7 D _ (.deferred none) Gs hK7 rfl rfl)⟩):P:=h
theorem dO  (hT:T.Ok) {wk x:Nat}{v:Value} (hI:T.In w) (Ot:TabAt 1 Lib.deBruijn32tab w) (hW:Ce w wk T.tb B v L x) (hL:L.length<=100000) (hps:BE T.N L):
  Calls Tryz.prog 148 #[ac wk] w λe w'=>∃u,e=.returned u/\BL w' w.heap.size u (I4 T.zy T.N.nT (BG (KG T L)))/\Below w.heap.size w w':=by
 have Dx:T.N.nT<=20:=hI.fc.gr.Ch;have Bo:=hI.bd;obtain⟨Wv,Oc⟩:=uL hT Dx hps;have Cs:wk<w.heap.size:=ak hW.1;have Jk:Hid (∀W,Below w.heap.size w W->T.In W/\TabAt 1 Lib.deBruijn32tab W):=hid λW hb=>⟨hI.below Bo hb,TabAt.below Ot hb (bu _ _ (Ot 0 (by decide)))⟩
 have HPL:Hid (BE T.N L):=hid hps;have Po:=hW.2.parts;obtain⟨Ya,Yb,rfl,_⟩:=hW.2.form;have Ro:Hid (D1 w w.heap.size (.slice Ya L.length Yb) L.reverse):=hid Po;have c0:w.cell? (af wk 0)=some (ac T.tb):=(A0 hW.1).trans rfl;have c1:w.cell? (af wk 1)=some (.slice Ya L.length Yb):=(A0 hW.1).trans rfl;have HX:Hid (KG T L<2 ^21/\∀t,t∈BG (KG T L)->t<=T.N.nT):=hid ⟨Wv,Oc⟩;clear hI Ot hW hps Po Wv Oc;refine(nk (n:=4)).1 ?_;refine qw Tryz.func148 rfl trivial ?_ rfl;simp only[Tryz.ntmps148,jf,lC,jd,Nat.reduceAdd,Nat.reduceSub,jm,jo,jy,jr,ey,iw]
 gi_wp2_with (refine⟨trivial,?_⟩;gi_at_call 197;refine(aH Fence.wide 3 trivial rfl _ _ _ _).mono ?_;rintro e w1 ⟨rfl,rfl⟩)
 obtain⟨W0,hW0⟩:=qE (((w.alloc (.cells #[ac wk] 194)).alloc (.cells #[.int .u32 0] 214)).alloc (.cells #[.slice Ya L.length Yb] 228));have hs0:W0.heap.size=w.heap.size+3:=by rw[<-hW0];simp
 have hb0:Below w.heap.size w W0:=by rw[<-hW0];exact(((ah _ w).alloc (zn _) _).alloc (by simp) _).alloc zG _
 have hx0:W0.heap[w.heap.size]?=some (.cells #[ac wk] 194 (0,0))/\W0.heap[w.heap.size+1]?=some (.cells #[.int .u32 0] 214 (0,0))/\W0.cell? (af (w.heap.size+2) 0)=some (.slice Ya L.length Yb):=by
  rw[<-hW0];refine⟨?_,?_,?_⟩
  ·exact(dw _ _ _ zG).trans ((dw _ _ _ (by simp)).trans (bg w _))
  ·refine(dw _ _ _ (by simp)).trans ?_
   have h:=bg (w.alloc (.cells #[ac wk] 194)) (.cells #[.int .u32 0] 214)
   rwa [bh]at h
  ·have h:=GX ((w.alloc (.cells #[ac wk] 194)).alloc (.cells #[.int .u32 0] 214)) (.slice Ya L.length Yb) 228
   rw[bh,bh]at h;exact h
 rw[hW0];clear hW0;obtain⟨hxa,hxn,hxs⟩:=hx0;have Ah:=hid hb0;refine wpIn_rangeFunc_ownH (F:=Fence.wide) rfl (by omega) (gf:=224) (lb:= #[ac (w.heap.size+2)]) rfl trivial (rq Tryz.func224 yM rfl)
  (T6 3 (by omega) (w.heap.size+2) L.length (by omega) (KD L.reverse) (FP w.heap.size (w.heap.size+2)) (λW=>D1 W w.heap.size (.slice Ya L.length Yb) L.reverse/\W.cell? (af (w.heap.size+2) 0)=some (.slice Ya L.length Yb))
   (λA C hQ hK=>⟨hQ.1.below hK.1,(jh hK.2).trans hQ.2⟩) (λW hQ=>by have h1:=V4 hQ.1 hQ.2;rw[uk]at h1;exact h1) W0
   (λW hW=>⟨Ro.out.below (Ah.out.trans (hW.mono (by omega))),(hW.cell (by show w.heap.size+2<W0.heap.size;omega)).trans hxs⟩))
  FP.trans (FP.put (by omega) (by omega)) (ah _ _) (λ_=>rfl)
  (fun(pre:List (BX L.length (KD L.reverse))) W=>pre=[]/\Below w.heap.size w W/\W0.heap.size<=W.heap.size/\W.heap[w.heap.size]?=some (.cells #[ac wk] 194 (0,0))/\W.heap[w.heap.size+1]?=some (.cells #[.int .u32 0] 214 (0,0)))
  (λc (pre:List (BX L.length (KD L.reverse))) W=>c=.exit 0/\Below w.heap.size w W/\W.heap[w.heap.size]?=some (.cells #[ac wk] 194 (0,0))/\∃y:BX L.length (KD L.reverse),pre=[y]/\W.heap[w.heap.size+1]?=some (.cells #[.int .u32 (EK T.k (FC L.reverse y.1.1)).1] 214 (0,0)))
  ?own ?aes ⟨rfl,hb0,zn _,hxa,hxn⟩
  (λy a' W=>∃pb,W0.heap.size<=pb/\pb<W.heap.size/\W.heap[pb]?=some (.cells #[.bool (AW (FC L.reverse y.1.1)),ab (AV (FC L.reverse y.1.1))] 235 (0,0))/\a'= {tmps:= #[ac wk,ac w.heap.size,.slice none 0 0,ac (w.heap.size+1),undef,ac pb,undef,undef,ac wk,ac wk,.pointer (some (af wk 1)),.slice Ya L.length Yb,.func (.func 224) #[] #[ac (w.heap.size+2)],ab (y.1.1:Int),y.1.2,undef,undef,undef,undef,undef,undef,undef,undef,undef,undef,undef,undef,undef,undef,undef,undef,undef,undef,undef,undef,undef,undef,undef,undef],defers:=[]})
  ?abY ?assign ?body ?done ?stop
 case own=>
  rintro pre A C row ⟨h1,h2,h3,h4,h5⟩ hg hr;exact⟨h1,h2.grown hg (by omega) (λq e=>by have:=(hr q e).1;omega),zV h3 hg.size,G5 h4 hg (λr e=>(hr r e).2),G5 h5 hg (λr e=>(hr r e).2)⟩
 case aes=>
  rintro c pre A C row ⟨h1,h2,h4,y,h5,h6⟩ hg hr;exact⟨h1,h2.grown hg h2.size (λq e=>by have:=(hr q e).1;omega),G5 h4 hg (λr e=>(hr r e).2),y,h5,G5 h6 hg (λr e=>(hr r e).2)⟩
 case abY=>
  rintro y a' _ A C row ⟨pb,h1,h2,h3,h4⟩ hg hr;exact⟨pb,h1,lL h2 hg.size,G5 h3 hg (λr e=>(hr r e).2),h4⟩
 case assign=>
  rintro l pre ⟨⟨i,Eo⟩,hi1,hi2⟩ W K ⟨h1,h2,h3,h4,h5⟩ hK;simp only at hi1 hi2;unfold KD at hi2;subst hi2;have zW:A5 W (W.alloc (.cells #[.bool (AW (FC L.reverse i)),ab (AV (FC L.reverse i))] 235)) []:=(A5.refl W []).alloc _;simp only[O6]
  gi_wp2
  exact hK _ _ ((KeepsOthers.alloc _ _).from _) (FP.keeps zW (by omega) (by omega) (λq h=>by cases h)) ⟨h1,h2.alloc h2.size _,by rw[bh];omega,(dw _ _ _ (ak h4)).trans h4,(dw _ _ _ (ak h5)).trans h5⟩ ⟨W.heap.size,by omega,by rw[bh];omega,bg W _,rfl⟩
 case body=>
  rintro l pre ⟨⟨i,Eo⟩,hi1,hi2⟩ a' W hl ⟨r,hr⟩ ⟨rfl,h2,h3,h4,h5⟩ ⟨pb,Dn,Km,Fw,rfl⟩ hlt;simp only at hi1 hi2 Fw ⊢;unfold KD at hi2;subst hi2;have Dc:JQ T.N (FC L.reverse i):=by
   have h:L.reverse[i]?=some (FC L.reverse i):=by
    have h0:i<L.reverse.length:=by rw[uk];exact hi1
    rw[NV (gE h0)];exact gE h0
   have hm:=List.mem_reverse.1 (mG h);obtain⟨j,hj,e⟩:=jv.1 hm;exact HPL.out.at (zM.2 ⟨hj,e⟩)
  have c0W:=(h2.cell (p:=(af wk 0)) Iv).trans c0;have cB:W.cell? (af w.heap.size 0)=some (ac wk):=(A0 h4).trans rfl;have cN:W.cell? (af (w.heap.size+1) 0)=some (.int .u32 0):=(A0 h5).trans rfl;have fN:W.frozen? (af (w.heap.size+1) 0)=false:=A7 h5;have Sk:=(A0 (j:=0) Fw).trans rfl;have Sm:=(A0 (j:=1) Fw).trans rfl;have ahz:=YX Dx hT.fh Dc;have hno:=o3 hT Dc;have Jf:Hid (∀V,Below w.heap.size w V->Calls Tryz.prog 198 #[ac T.tb,.agg #[.bool (AW (FC L.reverse i)),ab (AV (FC L.reverse i))]] V λe w'=>e=.returned (.tuple #[.int .u32 (EK T.k (FC L.reverse i)).1,.bool false])/\Below V.heap.size V w'):=hid λV hb=>by
   have h:=UR V _ _ _ _ _ _ _ _ _ _ _ (Jk.out V hb).1.fc (FC L.reverse i) Dc;rw[hno]at h;exact h
  obtain⟨bp,Sq⟩:=qE (AW (FC L.reverse i));obtain⟨np,hnp⟩:=qE (AV (FC L.reverse i));obtain⟨fp,hfp⟩:=qE ((EK T.k (FC L.reverse i)).1);rw[Sq]at Sk Jf;rw[hnp]at Sm Jf;rw[hfp]at Jf ahz;have HFP:=hid hfp;have Ou:bits .or .u32 (0:Int) (fp:Int)=(fp:Int):=by
   have h:=SA (a:=0) (b:=fp) (by decide) ahz;rw[Nat.zero_or]at h;exact h
  have H2:=hid h2;have H45:=hid (And.intro h4 h5);clear Dc hno Sq hnp hfp Fw h2 h4 h5;have hlB:w.heap.size<W.heap.size:=by omega
  have Rl:w.heap.size+1<W.heap.size:=by omega
  have hwW:wk<W.heap.size:=by omega
  gi_wp2
  refine GL (S:=λw'=>w'.cell? (af w.heap.size 0)=some (ac wk)/\w'.cell? (af wk 0)=some (ac T.tb)/\w'.cell? (af pb 0)=some (.bool bp)/\w'.cell? (af pb 1)=some (ab np)) hmx yM Lv ⟨cB,c0W,Sk,Sm⟩ (λhH=>?_);refine tB 0 hH ?_;refine tB 1 hH ?_;refine tB 2 hH ?_;refine tB 3 hH ?_;refine tB 4 hH ?_;refine tB 5 hH ?_;refine tB 6 hH ?_;refine tL ?_;refine tS 7 λK hK=>?_
  refine tM ?_;rw[ay (by rfl)];go_simp;refine(Jf.out _ (H2.out.drew)).mono ?_;rintro e w6 ⟨rfl,zU⟩;refine hK.out _ _ ?_ λhH=>?_
  ·exact⟨(zU.cell (by exact hlB)).trans hH.1,(zU.cell (by exact hwW)).trans hH.2.1,(zU.cell (by exact Km)).trans hH.2.2.1,(zU.cell (by exact Km)).trans hH.2.2.2⟩
  clear hK K;refine tB 8 hH ?_;refine tB 9 hH ?_;refine tB 10 hH ?_;refine tB 11 hH ?_;refine tB 12 hH ?_;refine tL ?_;refine bq yM ?_ _;clear hH;have Tf:Below W.heap.size W w6:=(ah _ W).drew.trans zU;have cN6:=(Tf.cell (p:=(af (w.heap.size+1) 0)) (by exact Rl)).trans cN;have fN6:=(Tf.frozen (p:=(af (w.heap.size+1) 0)) (by exact Rl)).trans fN;have Es:=hid Tf;clear zU Tf cB cN fN Sk Sm c0W
  gi_wp2
  have hk:A5 W (w6.setCell (af (w.heap.size+1) 0) (.int .u32 (fp:Int))) [w.heap.size+1]:=(A5.zQ Es.out _).setCell (by simp) _;refine⟨GG hk (λq hq=>by rw[mS.1 hq];exact⟨_,_,_,H45.out.2⟩),rfl,H2.out.trans (hk.below (by omega) (λq hq=>by rw[mS.1 hq];omega)),(hk.block _ hlB (by simp)).trans H45.out.1,_,rfl,?_⟩;rw[HFP.out];exact AA ((Es.out.block _ Rl).trans H45.out.2) _
 case done=>
  rintro D ys W hD hys ⟨rfl,h2,h3,h4,h5⟩ hK;have Pc:L=[]:=by
   have h1:=congrArg List.length hys;simp at h1;exact List.length_eq_zero_iff.1 h1.symm
  have hx:KG T L=0:=by rw[Pc];rfl
  have cB:W.cell? (af w.heap.size 0)=some (ac wk):=(A0 h4).trans rfl;have cN:W.cell? (af (w.heap.size+1) 0)=some (.int .u32 (KG T L)):=by rw[hx];exact(A0 h5).trans rfl
  have c0W:=(h2.cell (p:=(af wk 0)) Iv).trans c0;have H2:=hid h2;obtain⟨sx,Tg⟩:=qE (KG T L);rw[Tg]at cN;have HSX:=hid Tg;clear h2 h4 h5 hx Pc hys Tg;have Gs:w.heap.size<=D:=by omega
  exact ahy
 case stop=>
  rintro D c pre W hD ⟨k,hk,hys⟩ ⟨rfl,h2,h4,y,rfl,h5⟩ hK;have hx:KG T L=(EK T.k (FC L.reverse y.1.1)).1:=by
   have h1:=congrArg List.length hys;simp at h1;have h3:L.length=k+1:=by omega
   have h8:(List.range L.length).reverse.head?=some k:=by rw[h3,LL];rfl
   rw[<-hys]at h8;have h9:y.1.1=k:=by simpa using h8
   have h6:L.reverse[k]?=L[0]?:=by
    rw[List.getElem?_reverse (by omega)]
    congr 1;omega
   rw[h9];clear hys h1 h8 h9 h5;clear y;cases L with
   |nil=>simp at h3
   |cons p s=>
    have h7:FC (p::s).reverse k=p:=NV (h6.trans rfl);rw[h7];rfl
  have cB:W.cell? (af w.heap.size 0)=some (ac wk):=(A0 h4).trans rfl;have cN:W.cell? (af (w.heap.size+1) 0)=some (.int .u32 (KG T L)):=by rw[hx];exact(A0 h5).trans rfl
  have c0W:=(h2.cell (p:=(af wk 0)) Iv).trans c0;have H2:=hid h2;obtain⟨sx,Tg⟩:=qE (KG T L);rw[Tg]at cN;have HSX:=hid Tg;have Gs:w.heap.size<=D:=by omega
  clear h2 h4 h5 hx hys Tg hk;exact ahy
end
section
structure B3 (B:Nat) (w w':World):Prop where
 os:w'.os=w.os
 tape:w'.tape=w.tape
 output:w'.output=w.output
 size:w.heap.size<=w'.heap.size
 block:∀k,k<w.heap.size->(k<B\/∃c f,w.heap[k]?=some (.cells c 201 f))->w'.heap[k]?=w.heap[k]?
theorem B3.refl (B:Nat) (w:World):B3 B w w:=⟨rfl,rfl,rfl,zn _,λ_ _ _=>rfl⟩
theorem B3.trans {a b c:World} (h:B3 B a b) (k:B3 B b c):B3 B a c:=
 ⟨k.os.trans h.os,k.tape.trans h.tape,k.output.trans h.output,zV h.size k.size,λi hi hc=>by
  have h1:=h.block i hi hc;exact(k.block i (lL hi h.size) (hc.imp id (λ⟨c,f,h2⟩=>⟨c,f,h1.trans h2⟩))).trans h1⟩
theorem B3.Mg {S:List Nat} (h:A5 w w' S) (hS:∀q∈S,B<=q/\∃c e f,w.heap[q]?=some (.cells c e f)/\e≠201):B3 B w w':=
 ⟨h.os,h.tape,h.output,h.size,λk hk hc=>h.block k hk (λhm=>by
  obtain⟨h1,c,e,f,h2,h3⟩:=hS k hm
  rcases hc with hc | ⟨c',f',hc⟩
  ·omega
  ·rw[h2]at hc
   injection hc with hc
   injection hc with _ hc
   exact h3 hc)⟩
theorem B3.zQ  (h:Below w.heap.size w w'):B3 B w w':=.Mg (A5.zQ h []) (λq hq=>by cases hq)
theorem B3.below  (h:B3 B w w') (hB:B<=w.heap.size):Below B w w' where
 os:=h.os
 tape:=h.tape
 output:=h.output
 size:=h.size
 block:=λk hk=>h.block k (by omega) (.inl hk)
structure qD where
 e:Nat
 sz:Nat
 v:Value
 n:Nat
 xs:List Value
def Sl (j:Nat):Prop:=j=3\/j=5\/j=6\/j=8\/j=10
def WH (e:Nat):Prop:=e=3\/e=9\/e=39\/e=121
theorem WH.ne {e:Nat} (h:WH e):e≠197/\e≠230/\e≠235/\e≠201:=by
 rcases h with h |h |h |h <;> subst h <;> decide
structure Cr (T:Am) (w:World) (mb wk B:Nat) (rv:Value) (a c:Nat) (f:Nat->qD) (ws:Value) (L:List Pt) (x:Nat) (xs:List Value) (X:List (List ByteArray)):Prop where
 blk:w.heap[mb]?=some (.cells #[ac T.tb,rv,ab a,(f 3).v,ac wk,(f 5).v,(f 6).v,ab c,(f 8).v,.slice none 0 0,(f 10).v] 197 (0,0))
 rows:∀j,Sl j->w.ownsRow B (f j).e (f j).sz (f j).v (f j).n (f j).xs
 kind:∀j,Sl j->WH (f j).e
 ap:∀j j',Sl j->Sl j'->j≠j'->∀g,(f j).v.ownBlock=some g->(f j').v.ownBlock≠some g
 Jr:Ce w wk T.tb B ws L x
 len:X.length=xs.length
 ex:∀(i:Nat) u l,xs[i]?=some u->X[i]?=some l->BL w B u l
 ea:∀u∈xs,∀j,Sl j->∀g,u.ownBlock=some g->(f j).v.ownBlock≠some g
 Qp:B<=mb
 Qq:B<=wk
section
variable {T:Am}{w w' Wa w1:World}{mb wk B a c x:Nat}{rv ws:Value}{f f':Nat->qD}{L:List Pt}{xs:List Value}{X:List (List ByteArray)}
theorem Cr.Vl (h:Cr T w mb wk B rv a c f ws L x xs X):mb<w.heap.size:=ak h.blk
theorem Cr.keeps {S:List Nat} (h:Cr T w mb wk B rv a c f ws L x xs X) (hk:A5 w w' S) (h1:mb∉S) (h2:∀j,Sl j->∀g,(f j).v.ownBlock=some g->g∉S) (h3:wk∉S) (h4:∀g,ws.ownBlock=some g->g∉S) (h5:∀u∈xs,∀g,u.ownBlock=some g->g∉S):Cr T w' mb wk B rv a c f ws L x xs X where
 blk:=(hk.block mb h.Vl h1).trans h.blk
 rows:=λj hj=>AC (h.rows j hj) hk (h2 j hj)
 kind:=h.kind
 ap:=h.ap
 Jr:=h.Jr.keeps hk h3 h4
 len:=h.len
 ex:=λi u l hu hl=>AC (h.ex i u l hu hl) hk (h5 u (mG hu))
 ea:=h.ea
 Qp:=h.Qp
 Qq:=h.Qq
theorem Cr.below (h:Cr T w mb wk B rv a c f ws L x xs X) (hb:Below w.heap.size w w'):Cr T w' mb wk B rv a c f ws L x xs X:=h.keeps (A5.zQ hb []) (by simp) (λ_ _ _ _=>by simp) (by simp) (λ_ _=>by simp) (λ_ _ _ _=>by simp)
theorem Cr.rk (h:Cr T w mb wk B rv a c f ws L x xs X) {j:Nat} (hj:Sl j):∀q∈mb::(f j).v.ownBlock.toList,B<=q/\∃c e f,w.heap[q]?=some (.cells c e f)/\e≠201:=λq hq=>by
 rcases bk.1 hq with e |e
 ·subst e;exact⟨h.Qp,_,_,_,h.blk,by decide⟩
 ·have e:(f j).v.ownBlock=some q:=by simpa using e
  obtain⟨c,h1⟩:=BQ (h.rows j hj) e;exact⟨((h.rows j hj).lt q e).1,_,_,_,h1,(h.kind j hj).ne.2.2.2⟩
theorem Cr.far (h:Cr T w mb wk B rv a c f ws L x xs X) {j:Nat} (hj:Sl j):
  (∀j',Sl j'->j'≠j->∀g,(f j').v.ownBlock=some g->g∉mb::(f j).v.ownBlock.toList)/\wk∉mb::(f j).v.ownBlock.toList/\(∀g,ws.ownBlock=some g->g∉mb::(f j).v.ownBlock.toList)/\(∀u∈xs,∀l,BL w B u l->∀g,u.ownBlock=some g->g∉mb::(f j).v.ownBlock.toList):=by
 refine⟨λj' hj' hne g hg hm=>?_,λhm=>?_,λg hg hm=>?_,λu hu l hl g hg hm=>?_⟩
 ·rcases bk.1 hm with e |e
  ·subst e;exact A9 (h.rows j' hj') h.blk (h.kind j' hj').ne.1 hg
  ·exact h.ap j' j hj' hj hne g hg Ee
 ·rcases bk.1 hm with e |e
  ·have h1:=h.Jr.1
   rw[e,h.blk]at h1;injection h1 with h1
   injection h1 with _ h1
   exact absurd h1 (by decide)
  ·exact A9 (h.rows j hj) h.Jr.1 (h.kind j hj).ne.2.1 Ee
 ·rcases bk.1 hm with e |e
  ·subst e;exact A9 h.Jr.2 h.blk (by decide) hg
  ·exact GQ h.Jr.2 (h.rows j hj) (λe2=>(h.kind j hj).ne.2.2.1 e2.symm) hg Ee
 ·rcases bk.1 hm with e |e
  ·subst e;exact A9 hl h.blk (by decide) hg
  ·exact h.ea u hu j hj g hg Ee
theorem Cr.app (h:Cr T w mb wk B rv a c f ws L x xs X) {j0:Nat} (hj:Sl j0) (hka:A5 w Wa []) (hgrow:Wa.grownBy w1 (f j0).v.ownBlock) (hown:w1.ownsRow B (f' j0).e (f' j0).sz (f' j0).v (f' j0).n (f' j0).xs) (he:(f' j0).e=(f j0).e) (hsz:(f' j0).sz=(f j0).sz) (hfr:BN w.heap.size (f j0).v (f' j0).v) (ho:∀j,Sl j->j≠j0->f' j=f j):
  w1.heap[mb]?=some (.cells #[ac T.tb,rv,ab a,(f 3).v,ac wk,(f 5).v,(f 6).v,ab c,(f 8).v,.slice none 0 0,(f 10).v] 197 (0,0))/\
   Cr T (w1.setCell (af mb j0) (f' j0).v) mb wk B rv a c f' ws L x xs X/\B3 B w (w1.setCell (af mb j0) (f' j0).v):=by
 have hrow:=h.rows j0 hj;rw[<-he,<-hsz]at hrow;obtain⟨z1,z2,z3,z4⟩:=EY (j:=j0) hka h.blk (by rw[he];exact(h.kind j0 hj).ne.1) hrow hown hgrow;obtain⟨f1,f2,f3,f4⟩:=h.far hj;have hlt:∀j,Sl j->∀g,(f j).v.ownBlock=some g->g<w.heap.size:=λj hj g hg=>D8 (h.rows j hj) hg
 refine⟨z1,⟨?_,λj hj'=>?_,λj hj'=>?_,λj j' h1 h2 hne g hg=>?_,h.Jr.keeps z4 f2 f3,h.len,λi u l hu hl=>AC (h.ex i u l hu hl) z4 (f4 u (mG hu) l (h.ex i u l hu hl)),λu hu j hj' g hg=>?_,h.Qp,h.Qq⟩,B3.Mg z4 (h.rk hj)⟩
 ·rw[z2]
  rcases hj with e |e |e |e |e <;> subst e
  ·rw[ho 5 Gm (by decide),ho 6 Gm (by decide),ho 8 Gm (by decide),ho 10 Gm (by decide)];rfl
  ·rw[ho 3 Gm (by decide),ho 6 Gm (by decide),ho 8 Gm (by decide),ho 10 Gm (by decide)];rfl
  ·rw[ho 3 Gm (by decide),ho 5 Gm (by decide),ho 8 Gm (by decide),ho 10 Gm (by decide)];rfl
  ·rw[ho 3 Gm (by decide),ho 5 Gm (by decide),ho 6 Gm (by decide),ho 10 Gm (by decide)];rfl
  ·rw[ho 3 Gm (by decide),ho 5 Gm (by decide),ho 6 Gm (by decide),ho 8 Gm (by decide)];rfl
 ·by_cases e:j=j0
  ·subst e;exact z3
  ·rw[ho j hj' e];exact AC (h.rows j hj') z4 (f1 j hj' e)
 ·by_cases e:j=j0
  ·subst e;rw[he];exact h.kind j hj
  ·rw[ho j hj' e];exact h.kind j hj'
 ·by_cases e:j=j0
  ·subst e
   rw[ho j' h2 (λe=>hne e.symm)]
   rcases hfr g hg with h3 |h3
   ·exact h.ap j j' h1 h2 hne g h3
   ·intro h4;have:=hlt j' h2 g h4;omega
  ·rw[ho j h1 e]at hg
   by_cases e2:j'=j0
   ·subst e2
    intro h4
    rcases hfr g h4 with h3 |h3
    ·exact h.ap j j' h1 h2 hne g hg h3
    ·have:=hlt j h1 g hg;omega
   ·rw[ho j' h2 e2];exact h.ap j j' h1 h2 hne g hg
 ·by_cases e:j=j0
  ·subst e
   intro h4
   rcases hfr g h4 with h3 |h3
   ·exact h.ea u hu j hj' g hg h3
   ·obtain⟨i,hi,Ra⟩:=jv.1 hu
    have hi2:i<X.length:=by rw[h.len];exact hi
    have h5:=h.ex i u X[i] (by rw[gE hi,Ra]) (gE hi2);have:=D8 h5 hg;omega
  ·rw[ho j hj' e];exact h.ea u hu j hj' g hg
theorem Cr.setAt (h:Cr T w mb wk B rv a c f ws L x xs X) (a':Nat):Cr T (w.setCell (af mb 2) (ab a')) mb wk B rv a' c f ws L x xs X/\B3 B w (w.setCell (af mb 2) (ab a')):=by
 have hk:A5 w (w.setCell (af mb 2) (ab a')) [mb]:=(A5.refl w [mb]).setCell (by simp) _;have hS:∀{q:Nat},q∈ [mb]->q∈mb::(f 3).v.ownBlock.toList:=λhq=>by rw[mS.1 hq];exact ew ..
 have h3:Sl 3:=.inl rfl;obtain⟨_,f2,f3,f4⟩:=h.far h3;refine⟨⟨AA (j:=2) h.blk _,λj hj=>AC (h.rows j hj) hk (λg hg hm=>?_),h.kind,h.ap,h.Jr.keeps hk (λhm=>f2 (hS hm)) (λg hg hm=>f3 g hg (hS hm)),h.len,λi u l hu hl=>AC (h.ex i u l hu hl) hk (λg hg hm=>f4 u (mG hu) l (h.ex i u l hu hl) g hg (hS hm)),h.ea,h.Qp,h.Qq⟩,B3.Mg hk (λq hq=>h.rk h3 q (hS hq))⟩;have hm:=mS.1 hm;subst hm;exact A9 (h.rows j hj) h.blk (h.kind j hj).ne.1 hg
theorem Cr.akA (h:Cr T w mb wk B rv a c f ws L x xs X) (c':Nat):Cr T (w.setCell (af mb 7) (ab c')) mb wk B rv a c' f ws L x xs X/\B3 B w (w.setCell (af mb 7) (ab c')):=by
 have hk:A5 w (w.setCell (af mb 7) (ab c')) [mb]:=(A5.refl w [mb]).setCell (by simp) _;have hS:∀{q:Nat},q∈ [mb]->q∈mb::(f 3).v.ownBlock.toList:=λhq=>by rw[mS.1 hq];exact ew ..
 have h3:Sl 3:=.inl rfl;obtain⟨_,f2,f3,f4⟩:=h.far h3;refine⟨⟨AA (j:=7) h.blk _,λj hj=>AC (h.rows j hj) hk (λg hg hm=>?_),h.kind,h.ap,h.Jr.keeps hk (λhm=>f2 (hS hm)) (λg hg hm=>f3 g hg (hS hm)),h.len,λi u l hu hl=>AC (h.ex i u l hu hl) hk (λg hg hm=>f4 u (mG hu) l (h.ex i u l hu hl) g hg (hS hm)),h.ea,h.Qp,h.Qq⟩,B3.Mg hk (λq hq=>h.rk h3 q (hS hq))⟩;have hm:=mS.1 hm;subst hm;exact A9 (h.rows j hj) h.blk (h.kind j hj).ne.1 hg
theorem Cr.walk {ws':Value}{L':List Pt}{x':Nat} (h:Cr T w mb wk B rv a c f ws L x xs X) (hk:A5 w w' (wk::ws.ownBlock.toList)) (hw:Ce w' wk T.tb B ws' L' x'):Cr T w' mb wk B rv a c f ws' L' x' xs X/\B3 B w w':=by
 have hS:∀q∈wk::ws.ownBlock.toList,B<=q/\∃c e f,w.heap[q]?=some (.cells c e f)/\(e=230\/e=235):=λq hq=>by
  rcases bk.1 hq with e |e
  ·subst e;exact⟨h.Qq,_,_,_,h.Jr.1,.inl rfl⟩
  ·have e:ws.ownBlock=some q:=by simpa using e
   obtain⟨c,h1⟩:=BQ h.Jr.2 e;exact⟨(World.ownsRow.lt h.Jr.2 q e).1,_,_,_,h1,.inr rfl⟩
 have hne:∀{q:Nat}{c:Array Value}{e:Nat}{fr:Nat × Nat},w.heap[q]?=some (.cells c e fr)->e≠230->e≠235->q∉wk::ws.ownBlock.toList:=λh1 h2 h3 hm=>by
  obtain⟨_,c',e',f',h4,h5⟩:=hS _ hm;rw[h1]at h4;injection h4 with h4
  injection h4 with _ h4
  rcases h5 with h5 |h5
  ·exact h2 (h4.trans h5)
  ·exact h3 (h4.trans h5)
 refine⟨⟨(hk.block mb h.Vl (hne h.blk (by decide) (by decide))).trans h.blk,λj hj=>AC (h.rows j hj) hk (λg hg=>?_),h.kind,h.ap,hw,h.len,λi u l hu hl=>AC (h.ex i u l hu hl) hk (λg hg=>?_),h.ea,h.Qp,h.Qq⟩,B3.Mg hk (λq hq=>?_)⟩
 ·obtain⟨c,h1⟩:=BQ (h.rows j hj) hg
  exact hne h1 (h.kind j hj).ne.2.1 (h.kind j hj).ne.2.2.1
 ·obtain⟨c,h1⟩:=BQ (h.ex i u l hu hl) hg
  exact hne h1 (by decide) (by decide)
 ·obtain⟨h1,c,e,f,h2,h3⟩:=hS q hq
  exact⟨h1,c,e,f,h2,by rcases h3 with h3 |h3 <;> subst h3 <;> decide⟩
theorem Cr.akB {u:Value}{l:List ByteArray}{w0:World} (h:Cr T w mb wk B rv a c f ws L x xs X) (hu:BL w B u l) (hn:∀g,u.ownBlock=some g->w0.heap.size<=g) (h0:∀j,Sl j->∀g,(f j).v.ownBlock=some g->g<w0.heap.size):Cr T w mb wk B rv a c f ws L x (xs++ [u]) (X++ [l]) where
 blk:=h.blk
 rows:=h.rows
 kind:=h.kind
 ap:=h.ap
 Jr:=h.Jr
 len:=by simp[h.len]
 ex:=λi u' l' h1 h2=>by
  have hl:=h.len
  rcases jz i xs.length with h3 |h3
  ·rw[aL h3]at h1
   rw[aL (by omega)]at h2;exact h.ex i u' l' h1 h2
  ·rw[Bc h3]at h1
   rw[Bc (by omega)]at h2;have e1:u'=u:=by
    have:=mG h1;simpa using this
   have e2:l'=l:=by
    have:=mG h2;simpa using this
   rw[e1,e2];exact hu
 ea:=λu' hu' j hj g hg h4=>by
  rcases ig.1 hu' with h5 |h5
  ·exact h.ea u' h5 j hj g hg h4
  ·rw[mS.1 h5]at hg
   have:=hn g hg;have:=h0 j hj g h4;omega
 Qp:=h.Qp
 Qq:=h.Qq
end
end
end Go.Proofs.YtjjggdcnpndgjaaGreatDoor
