import Derived.Test.YtjjggdcnpndgjaaGreatDoorHJ38
set_option linter.unusedSimpArgs false
set_option maxHeartbeats 4000000
set_option maxRecDepth 100000
namespace Go.Proofs.YtjjggdcnpndgjaaGreatDoor
open Go.RowKit Go.Shelf
variable {B:Nat}{L:List Pt}{T:zn}{w w':World}
section
attribute [local go_sem] Oper.semAt_some
theorem iV (s:Nat):(BA s).length<=21:=y5 (qj _ _) (by simp)
def GO (yL:List ByteArray) (nT:Nat) (l:List Nat):List ByteArray:=l.map (CV yL nT)
theorem VA (w:World) (n₀ fb kb:Nat) (N:NG) (yL:List ByteArray) (pg:List Nm) (yu:Option Addr) (yl gN xY:Nat) (k:List Fa) (h:zK w n₀ fb kb N yL pg yu yl gN xY k) (hT:TabAt 1 Lib.deBruijn32tab w) (s:Nat) (hs:s<2 ^21) (hb:∀t,t∈BA s->t<=N.nT):
  Calls Tryz.prog 112 #[ac fb,.int .u32 s] w λe w'=>∃v,e=.returned v/\DO w' w.heap.size v (GO yL N.nT (BA s))/\Below w.heap.size w w':=by
 obtain⟨i0,hi,hz0,hz1,hz2⟩:=jc Tryz.info9;have y7:=h.kn.lt;have hfw:=h.lf;have H:=hid h;have HT:=hid hT;have HB:=hid hb;have ab5:1<w.heap.size:=bq _ _ (hT 0 (by decide));clear h hT hb;refine(mq (n:=4)).1 ?_;refine qg Tryz.func112 rfl trivial ?_ rfl;simp only[Tryz.ntmps112,iz,lC,iw,Nat.reduceAdd,Nat.reduceSub,jg,jh,ju,jo,eu,ig]
 gi_wp2_with (refine⟨trivial,?_⟩;gi_at_call 128;refine(XP Fence.wide 3 trivial rfl _ _).mono ?_;rintro e w' ⟨rfl,rfl⟩)
 have bf:=GL w (ac fb) 212;obtain⟨w1,hw1⟩:=qE (w.alloc (.cells #[ac fb] 212));have hs1:w1.heap.size=w.heap.size+1:=by rw[<-hw1,bg]
 have Fi:Hid (Below w.heap.size w w1):=hid (by rw[<-hw1];exact zl (ah _ _));rw[hw1]at bf ⊢;rw[show w.heap.size+1=w1.heap.size from hs1.symm];have bO:=Boxed.new w1 39 (.slice none 0 0);obtain⟨w2,hw2⟩:=qE (w1.alloc (.cells #[.slice none 0 0] 39));have hs2:w2.heap.size=w1.heap.size+1:=by rw[<-hw2,bg]
 have hb2:Below w1.heap.size w1 w2:=by rw[<-hw2];exact zl (ah _ _)
 rw[hw2]at bO ⊢;rw[show w1.heap.size+1=w2.heap.size from hs2.symm];have bS:=GL w2 (.int .u32 s) 214;obtain⟨w3,hw3⟩:=qE (w2.alloc (.cells #[.int .u32 s] 214));have hs3:w3.heap.size=w2.heap.size+1:=by rw[<-hw3,bg]
 have bO3:=bO.alloc (.cells #[.int .u32 s] 214);have hb3:Below w1.heap.size w1 w3:=by rw[<-hw3];exact hb2.alloc hb2.size _
 rw[hw3]at bS bO3 ⊢;have alS:w.heap.size+1<=w1.heap.size:=by omega
 have alT:w1.heap.size+1<=w2.heap.size:=by omega
 have alU:w2.heap.size+1<=w3.heap.size:=by omega
 clear hw1 hw2 hw3 hs1 hs2 hs3;have Ku:Hid (zK w1 n₀ fb kb N yL pg yu yl gN xY k):=hid (H.out.below Fi.out);have fb0:=Ku.out.f0;have fb1:=Ku.out.f1;have aaQ:=Ku.out.lf;refine wm (F:=Fence.wide) rfl (by omega) (gf:=181) (lb:= #[ac w2.heap.size]) rfl trivial (qo Tryz.func181 yg rfl)
  (YK 3 (by omega) w2.heap.size w1.heap.size s hs (by omega) w3 (by omega) (TabAt.below (TabAt.below HT.out Fi.out (by omega)) hb3 (by omega)) bS) belowK_t (xX (by omega)) (ah _ _) (λ_=>rfl)
  (fun(pre:List (TI s)) W=>(∃v,Boxed W w1.heap.size 39 v/\W.ownsRow w1.heap.size 9 1 v (GO yL N.nT (pre.map (·.1))).length (JD (GO yL N.nT (pre.map (·.1))))/\True)/\Below w1.heap.size w1 W)
  (λ_ _ _=>False)
  (OwnFrom.and (Own.from (holdsRow_own w1.heap.size w1.heap.size 39 9 1 (fun(pre:List (TI s))=>(GO yL N.nT (pre.map (·.1))).length) (fun(pre:List (TI s))=>JD (GO yL N.nT (pre.map (·.1)))) (λ_ _=>True)) _) (ownFrom_below (yF _) (by omega)))
  (λ_ _ _ _ _ hs _ _=>hs)
  ⟨⟨_,bO3,je _ _ _ _,trivial⟩,hb3⟩
  (λx=>{tmps:= #[ac fb,.int .u32 s,ac w.heap.size,undef,.slice none 0 0,ac w1.heap.size,ab (x.1:Int),.int .u32 s,.func (.func 181) #[] #[ac w2.heap.size],ab (x.1:Int),undef,undef,undef,undef,undef,undef,undef,undef,undef,undef],defers:=[]}) ?assign ?body ?done ?stop
 case assign=>
  intro l x W K hK;simp only[kQ]
  gi_wp2
  exact hK
 case stop=>
  rintro D c pre W _ _ h _;exact h.elim
 case done=>
  rintro D ys W hD hys ⟨⟨v,hv,hrow,_⟩,hB⟩ hK;have hc:=hv.cell;have hrow2:=ownsRow_putObj hrow (.deferred none) hK rfl;have hBW:=hB.trans (xX (w:=w1) (yF _) W D _ (.deferred none) (by omega) hK rfl rfl);have HR:=hid (And.intro hrow2 hBW);clear hrow hrow2 hBW hB
  gi_wp2
  refine⟨by simp,.inl ⟨_,_,rfl,uo hK,?_⟩⟩;refine⟨_,yE rfl _ _ _,v,rfl,?_,Fi.out.trans (HR.out.2.mono (by omega))⟩;have h1:=HR.out.1;rw[hys]at h1;exact DO.base h1 (by omega)
 case body=>
  rintro l pre ⟨t,ht⟩ W ⟨⟨v,hv,hrow,_⟩,hB⟩ hlt;simp only at hlt ⊢;have Jh:t<=N.nT:=HB.out t ht;have alV:=iV s;have hpl:(GO yL N.nT (pre.map (·.1))).length<=21:=by unfold GO;rw[lM,lM];omega
  have agW:=hB.size;have cF:=(hB.cell (p:=(af w.heap.size 0)) (by show w.heap.size<w1.heap.size;omega)).trans bf;have c0:=(hB.cell (p:=(af fb 0)) (by exact aaQ)).trans fb0;have c1:=(hB.cell (p:=(af fb 1)) (by exact aaQ)).trans fb1;have cV:=hv.cell;have hBl:=hv.lt;have HPW:Hid (Ba W.drew n₀ N yL pg yu yl gN xY):=hid (Ku.out.gr.below ((Af hB).mono Ku.out.ln));have CW:=P9 W.drew n₀ N yL pg yu yl gN xY HPW.out (by show n₀<=W.heap.size;have:=Ku.out.ln;omega) t Jh;have Jk:=hid CW;have yR:Hid (Below w1.heap.size w1 W):=hid hB;have HV:=hid hv;have Da:=hid hrow;have agX:JD (GO yL N.nT ((pre++ [(⟨t,ht⟩:TI s)]).map (·.1)))=JD (GO yL N.nT (pre.map (·.1)))++ [.string (CV yL N.nT t)]/\(GO yL N.nT ((pre++ [(⟨t,ht⟩:TI s)]).map (·.1))).length=(GO yL N.nT (pre.map (·.1))).length+1:=by
   unfold GO JD;simp
  have HWD:=hid agX;obtain⟨wd,hwd⟩:=qE (CV yL N.nT t);rw[hwd]at Jk HWD;obtain⟨kk,hkk⟩:=qE ((GO yL N.nT (pre.map (·.1))).length);rw[hkk]at hpl Da HWD;clear CW hB hv hrow agX hwd hkk HPW Jh
  gi_wp2
  have hl2:w.heap.size<W.heap.size:=by omega
  have hlf:fb<W.heap.size:=by omega
  refine BZ (λw'=>w'.cell? (af w1.heap.size 0)=some v/\w'.cell? (af w.heap.size 0)=some (ac fb)/\w'.cell? (af fb 0)=some (.slice yu N.nT yl)/\w'.cell? (af fb 1)=some (ae gN N.nN xY)) hmx yg Ka yg ⟨cV,cF,c0,c1⟩ (λhH=>?_);simp only[AB,BM,AO];refine tB 0 hH ?_;refine tB 1 hH ?_;refine tB 2 hH ?_;refine tB 3 hH ?_;refine tB 4 hH ?_;refine tB 5 hH ?_;refine tL ?_;refine tS 6 λK hK=>?_
  refine tM ?_;rw[aq (by rfl)];go_simp;refine Jk.out.mono ?_;rintro e w6 ⟨rfl,yZ⟩;refine hK.out _ _ ?_ λhH=>?_
  ·exact⟨(yZ.cell (by exact hBl)).trans hH.1,(yZ.cell (by exact hl2)).trans hH.2.1,(yZ.cell (by exact hlf)).trans hH.2.2.1,(yZ.cell (by exact hlf)).trans hH.2.2.2⟩
  clear hK K;refine tL ?_;have Qt:Below W.heap.size W w6:=(Af (ah W.heap.size W)).trans yZ;have alW:=Qt.size;have hv6:Boxed w6 w1.heap.size 39 v:=(Qt.block w1.heap.size hBl).trans HV.out;have Ta:w6.ownsRow w1.heap.size 9 1 v kk (JD (GO yL N.nT (pre.map (·.1)))):=A7 Da.out (A1.yX Qt []) (by simp);have Qh:=hv6.not_row (by decide) Ta;have hoff:∀g,g<w1.heap.size->some g≠v.ownBlock:=λg hg e=>by have:=(Ta.lt g e.symm).1;omega
  have ogF:=hoff w.heap.size (by omega);have ogf:=hoff fb aaQ;have HV6:=hid hv6;have acH:=hid Ta;have aer:=hid Qt;clear hv6 Ta Qt hoff yZ;refine tS 7 λK hK=>?_
  refine tM ?_;go_simp;refine hK.out _ _ ?_ λhH=>?_
  ·exact⟨A2 _ hH.1,A2 _ hH.2.1,A2 _ hH.2.2.1,A2 _ hH.2.2.2⟩
  clear hK K;refine tL ?_;refine tS 8 λK hK=>?_
  refine tM ?_;rw[aq (by rfl)];refine mz _ (.tmp 10) (.tmp 17) 39 rfl w1.heap.size 9 i0 (.string ByteArray.empty) 1 16 Tryz.underlying39 hi hz0 hz1 hz2 rfl (by decide) v _ _ rfl (acH.out.alloc _) (af w6.heap.size 0) 1 1 [.string wd] rfl rfl (dh (fr:=(0,0)) (dw w6 _)) Fb (by omega) zX (by omega) yM _ rfl ?_;intro g2 cap2 w7 hown hgrow hat Bv;refine hK.out _ _ ?_ λhH=>?_
  ·exact⟨(hgrow.cell_far _ yM (by exact Qh)).trans hH.1,(hgrow.cell_far _ yM (by exact ogF)).trans hH.2.1,(hgrow.cell_far _ yM (by exact ogf)).trans hH.2.2.1,(hgrow.cell_far _ yM (by exact ogf)).trans hH.2.2.2⟩
  clear hK K;refine tL ?_;refine tB 9 hH ?_;refine tL ?_;refine bk yg ?_ _;clear hH hat Bv;obtain⟨hv1,hv2,hr2,hk2,hb2⟩:=HV6.out.appended (by decide) acH.out (by omega) (yF _) hown hgrow;have hc1:=hv1.cell;have hf1:=hv1.frozen;have Sd:=hid (And.intro hv2 (And.intro hr2 (And.intro hk2 hb2)));clear hv1 hv2 hr2 hk2 hb2 hown hgrow;show wpList _ _ _ _ _ _;go_wp2;refine⟨(KeepsFrom.Kk (S:=[]) (A1.yX aer.out []) (λq h=>by cases h)).trans (Sd.out.2.2.1.from _),(aer.out.mono agW).trans Sd.out.2.2.2,⟨_,Sd.out.1,?_,trivial⟩,(yR.out.trans (aer.out.mono agW)).trans Sd.out.2.2.2⟩;rw[HWD.out.1,HWD.out.2];exact Sd.out.2.1
end
section
attribute [local go_sem] Oper.semAt_some
theorem Oa.parts {v:Value} (h:Oa w B v L):C0 w w.heap.size v L.reverse:=by
 obtain⟨ad,cap,e,hc⟩:=h.form;refine⟨ad,cap,by rw[tj];exact e,by rw[tj];exact hc,λh0=>?_⟩;rw[tj]at h0;obtain⟨g,cap',e2,Av,hg2,hg3⟩:=AX h h0;rw[e]at e2;injection e2 with e3 _ e4
 subst e3;subst e4;subst e;refine⟨g,0,rfl,hg2,λi p hp=>?_⟩;have hi:=(yS.1 hp).1;rw[tj]at hi;have h1:=qd h (i*2) (by omega);have h2:=qd h (i*2+1) (by omega);have f0:=S5 (λp=>[Value.bool (AQ p),ab (AP p)]) (λ_=>rfl) L.reverse i p 0 hp (by omega);have f1:=S5 (λp=>[Value.bool (AQ p),ab (AP p)]) (λ_=>rfl) L.reverse i p 1 hp (by omega);rw[jl];exact⟨h1.trans f0,h2.trans f1⟩
def K8 (T:zn):List Pt->Nat
 | []=>0
 |p::_=>(E6 T.k p).1
theorem kR {t:Nat}:∀x,x∈BA (1<<<t)->x=t:=by
 intro x hx;have h1:=Q0 hx;rw[qi,wu]at h1;have h2:t=x:=by simpa using h1
 exact h2.symm
theorem tV  (hT:T.Ok) (Cj:T.N.nT<=20)  (hL:B3 T.N L):K8 T L<2 ^21/\∀t,t∈BA (K8 T L)->t<=T.N.nT:=by
 match L with
 | []=>exact⟨by show(0:Nat)<2 ^21;decide,λt ht=>by have:=Q0 ht;simp[K8]at this⟩
 | .tok u::s=>
  have hu:u<T.N.nT:=hL.2 u (eo ..);exact⟨pA (by omega),λt ht=>by have:=kR t ht;omega⟩
 | .yB n::s=>
  have hn:n<T.N.nN:=hL.1 n (eo ..);refine⟨hT.fh n,λt ht=>?_⟩;have h1:(AL T.k n).testBit t=true:=Q0 ht;have h2:t<=20:=by
   rcases jw 20 t with h |h
   ·exfalso
    have h3:=hT.fh n;have:(AL T.k n).testBit t=false:=Nat.testBit_lt_two_pow (lL h3 (ox (by omega) (by omega)));rw[this]at h1;cases h1
   ·exact h
  rw[hT.Tn n t hn h2]at h1;cases h4:T.yN n t with
  |none=>rw[h4]at h1;cases h1
  |some rhs=>exact qb (hT.rl n t rhs h4).2.1
theorem nJ  (hT:T.Ok) {p:Pt} (hp:J5 T.N p):(E6 T.k p).2=false:=by
 cases p with
 |tok t=>rfl
 |yB n=>exact hT.nn n hp
theorem agY {P:Prop} (h:P:=by
  have Pm:w.heap.size+1<W.heap.size:=bq _ _ cN;have hlB:w.heap.size<W.heap.size:=by omega
  have hwW:wk<W.heap.size:=by omega
  have hDl:D<W.heap.size:=(mh.1 hK).1;have Jk:=hid (VA W.drew _ _ _ _ _ _ _ _ _ _ _ (Gu.out W.drew H2.out.drew).1.fc (Gu.out W.drew H2.out.drew).2 sx (by rw[<-HSX.out];exact HX.out.1) (λt ht=>HX.out.2 t (by rw[HSX.out];exact ht)))
  gi_wp2
  refine KD ((xe (n:=4)).2 ?_);refine dn (S:=λw'=>w'.cell? (af w.heap.size 0)=some (ac wk)/\w'.cell? (af wk 0)=some (ac T.tb)/\w'.cell? (af (w.heap.size+1) 0)=some (.int .u32 sx)) yg ⟨cB,c0W,cN⟩ (λhH=>?_);refine tB 0 hH ?_;refine tB 1 hH ?_;refine tB 2 hH ?_;refine tB 3 hH ?_;refine tB 4 hH ?_;refine tB 5 hH ?_;refine tB 6 hH ?_;refine tL ?_;refine tS 7 λK hK=>?_
  refine tM ?_
  go_simp;refine Jk.out.mono ?_;rintro e w7 ⟨u7,rfl,hu7,Cm⟩;try dsimp only
  refine hK.out _ _ ?_ λhH=>?_
  ·exact⟨(Cm.cell (by exact hlB)).trans hH.1,(Cm.cell (by exact hwW)).trans hH.2.1,(Cm.cell (by exact Pm)).trans hH.2.2⟩
  clear hK K;refine tB 8 hH ?_;refine tL ?_;refine bk yg ?_ _;have hK7:w7.heap[D]?=some (.deferred (some [])):=(Cm.block D hDl).trans hK;have HU:Hid (DO w7 w.heap.size u7 (GO T.yL T.N.nT (BA (K8 T L)))):=hid (by rw[HSX.out];exact DO.base hu7 abJ);have Kq:Hid (Below w.heap.size w w7):=hid (H2.out.trans (((ah _ W).drew.trans Cm).mono abJ));clear hH Cm hu7;refine FA (Q:=λ_ _ _=>False) ?_
  gi_wp2
  refine⟨by simp,.inl ⟨_,_,rfl,uo hK7,?_⟩⟩;exact⟨_,yE rfl _ _ _,u7,rfl,ownsRow_putObj HU.out (.deferred none) hK7 rfl,Kq.out.trans (xX (w:=w) (yF _) w7 D _ (.deferred none) Eu hK7 rfl rfl)⟩):P:=h
theorem ZN  (hT:T.Ok) {wk x:Nat}{v:Value} (hI:T.In w) (Mx:TabAt 1 Lib.deBruijn32tab w) (hW:Ah w wk T.tb B v L x) (hL:L.length<=100000) (hps:B3 T.N L):
  Calls Tryz.prog 148 #[ac wk] w λe w'=>∃u,e=.returned u/\DO w' w.heap.size u (GO T.yL T.N.nT (BA (K8 T L)))/\Below w.heap.size w w':=by
 have Cj:T.N.nT<=20:=hI.fc.gr.Aj;have zW:=hI.bd;obtain⟨Ub,Ue⟩:=tV hT Cj hps;have Au:wk<w.heap.size:=ak hW.1;have Gu:Hid (∀W,Below w.heap.size w W->T.In W/\TabAt 1 Lib.deBruijn32tab W):=hid λW hb=>⟨hI.below zW hb,TabAt.below Mx hb (bq _ _ (Mx 0 (by decide)))⟩
 have HPL:Hid (B3 T.N L):=hid hps;have Nn:=hW.2.parts;obtain⟨Ve,Vf,rfl,_⟩:=hW.2.form;have Pq:Hid (C0 w w.heap.size (.slice Ve L.length Vf) L.reverse):=hid Nn;have c0:w.cell? (af wk 0)=some (ac T.tb):=(A0 hW.1).trans rfl;have c1:w.cell? (af wk 1)=some (.slice Ve L.length Vf):=(A0 hW.1).trans rfl;have HX:Hid (K8 T L<2 ^21/\∀t,t∈BA (K8 T L)->t<=T.N.nT):=hid ⟨Ub,Ue⟩;clear hI Mx hW hps Nn Ub Ue;refine(mq (n:=4)).1 ?_;refine qg Tryz.func148 rfl trivial ?_ rfl;simp only[Tryz.ntmps148,iz,lC,iw,Nat.reduceAdd,Nat.reduceSub,jg,jh,ju,jo,eu,ig]
 gi_wp2_with (refine⟨trivial,?_⟩;gi_at_call 197;refine(ZQ Fence.wide 3 trivial rfl _ _ _ _).mono ?_;rintro e w1 ⟨rfl,rfl⟩)
 obtain⟨W0,hW0⟩:=qE (((w.alloc (.cells #[ac wk] 194)).alloc (.cells #[.int .u32 0] 214)).alloc (.cells #[.slice Ve L.length Vf] 228));have hs0:W0.heap.size=w.heap.size+3:=by rw[<-hW0];simp
 have hb0:Below w.heap.size w W0:=by rw[<-hW0];exact(((ah _ w).alloc (yF _) _).alloc (by simp) _).alloc yM _
 have hx0:W0.heap[w.heap.size]?=some (.cells #[ac wk] 194 (0,0))/\W0.heap[w.heap.size+1]?=some (.cells #[.int .u32 0] 214 (0,0))/\W0.cell? (af (w.heap.size+2) 0)=some (.slice Ve L.length Vf):=by
  rw[<-hW0];refine⟨?_,?_,?_⟩
  ·exact(dm _ _ _ yM).trans ((dm _ _ _ (by simp)).trans (ay w _))
  ·refine(dm _ _ _ (by simp)).trans ?_
   have h:=ay (w.alloc (.cells #[ac wk] 194)) (.cells #[.int .u32 0] 214)
   rwa [bg]at h
  ·have h:=GL ((w.alloc (.cells #[ac wk] 194)).alloc (.cells #[.int .u32 0] 214)) (.slice Ve L.length Vf) 228
   rw[bg,bg]at h;exact h
 rw[hW0];clear hW0;obtain⟨hxa,hxn,hxs⟩:=hx0;have zv:=hid hb0;refine wpIn_rangeFunc_ownH (F:=Fence.wide) rfl (by omega) (gf:=224) (lb:= #[ac (w.heap.size+2)]) rfl trivial (qo Tryz.func224 yg rfl)
  (T3 3 (by omega) (w.heap.size+2) L.length (by omega) (JU L.reverse) (FG w.heap.size (w.heap.size+2)) (λW=>C0 W w.heap.size (.slice Ve L.length Vf) L.reverse/\W.cell? (af (w.heap.size+2) 0)=some (.slice Ve L.length Vf))
   (λA C hQ hK=>⟨hQ.1.below hK.1,(jd hK.2).trans hQ.2⟩) (λW hQ=>by have h1:=UA hQ.1 hQ.2;rw[tj]at h1;exact h1) W0
   (λW hW=>⟨Pq.out.below (zv.out.trans (hW.mono (by omega))),(hW.cell (by show w.heap.size+2<W0.heap.size;omega)).trans hxs⟩))
  FG.trans (FG.put (by omega) (by omega)) (ah _ _) (λ_=>rfl)
  (fun(pre:List (BX L.length (JU L.reverse))) W=>pre=[]/\Below w.heap.size w W/\W0.heap.size<=W.heap.size/\W.heap[w.heap.size]?=some (.cells #[ac wk] 194 (0,0))/\W.heap[w.heap.size+1]?=some (.cells #[.int .u32 0] 214 (0,0)))
  (λc (pre:List (BX L.length (JU L.reverse))) W=>c=.exit 0/\Below w.heap.size w W/\W.heap[w.heap.size]?=some (.cells #[ac wk] 194 (0,0))/\∃y:BX L.length (JU L.reverse),pre=[y]/\W.heap[w.heap.size+1]?=some (.cells #[.int .u32 (E6 T.k (F4 L.reverse y.1.1)).1] 214 (0,0)))
  ?own ?adD ⟨rfl,hb0,yF _,hxa,hxn⟩
  (λy a' W=>∃pb,W0.heap.size<=pb/\pb<W.heap.size/\W.heap[pb]?=some (.cells #[.bool (AQ (F4 L.reverse y.1.1)),ab (AP (F4 L.reverse y.1.1))] 235 (0,0))/\a'= {tmps:= #[ac wk,ac w.heap.size,.slice none 0 0,ac (w.heap.size+1),undef,ac pb,undef,undef,ac wk,ac wk,.pointer (some (af wk 1)),.slice Ve L.length Vf,.func (.func 224) #[] #[ac (w.heap.size+2)],ab (y.1.1:Int),y.1.2,undef,undef,undef,undef,undef,undef,undef,undef,undef,undef,undef,undef,undef,undef,undef,undef,undef,undef,undef,undef,undef,undef,undef,undef],defers:=[]})
  ?abh ?assign ?body ?done ?stop
 case own=>
  rintro pre A C row ⟨h1,h2,h3,h4,h5⟩ hg hr;exact⟨h1,h2.grown hg (by omega) (λq e=>by have:=(hr q e).1;omega),y5 h3 hg.size,FT h4 hg (λr e=>(hr r e).2),FT h5 hg (λr e=>(hr r e).2)⟩
 case adD=>
  rintro c pre A C row ⟨h1,h2,h4,y,h5,h6⟩ hg hr;exact⟨h1,h2.grown hg h2.size (λq e=>by have:=(hr q e).1;omega),FT h4 hg (λr e=>(hr r e).2),y,h5,FT h6 hg (λr e=>(hr r e).2)⟩
 case abh=>
  rintro y a' _ A C row ⟨pb,h1,h2,h3,h4⟩ hg hr;exact⟨pb,h1,lL h2 hg.size,FT h3 hg (λr e=>(hr r e).2),h4⟩
 case assign=>
  rintro l pre ⟨⟨i,Cz⟩,hi1,hi2⟩ W K ⟨h1,h2,h3,h4,h5⟩ hK;simp only at hi1 hi2;unfold JU at hi2;subst hi2;have y7:A1 W (W.alloc (.cells #[.bool (AQ (F4 L.reverse i)),ab (AP (F4 L.reverse i))] 235)) []:=(A1.refl W []).alloc _;simp only[NY]
  gi_wp2
  exact hK _ _ ((KeepsOthers.alloc _ _).from _) (FG.keeps y7 (by omega) (by omega) (λq h=>by cases h)) ⟨h1,h2.alloc h2.size _,by rw[bg];omega,(dm _ _ _ (ak h4)).trans h4,(dm _ _ _ (ak h5)).trans h5⟩ ⟨W.heap.size,by omega,by rw[bg];omega,ay W _,rfl⟩
 case body=>
  rintro l pre ⟨⟨i,Cz⟩,hi1,hi2⟩ a' W hl ⟨r,hr⟩ ⟨rfl,h2,h3,h4,h5⟩ ⟨pb,Bu,Hy,Dy,rfl⟩ hlt;simp only at hi1 hi2 Dy ⊢;unfold JU at hi2;subst hi2;have Ci:J5 T.N (F4 L.reverse i):=by
   have h:L.reverse[i]?=some (F4 L.reverse i):=by
    have h0:i<L.reverse.length:=by rw[tj];exact hi1
    rw[NE (gE h0)];exact gE h0
   have hm:=List.mem_reverse.1 (mG h);obtain⟨j,hj,e⟩:=jr.1 hm;exact HPL.out.at (yS.2 ⟨hj,e⟩)
  have c0W:=(h2.cell (p:=(af wk 0)) Gd).trans c0;have cB:W.cell? (af w.heap.size 0)=some (ac wk):=(A0 h4).trans rfl;have cN:W.cell? (af (w.heap.size+1) 0)=some (.int .u32 0):=(A0 h5).trans rfl;have fN:W.frozen? (af (w.heap.size+1) 0)=false:=A3 h5;have Qf:=(A0 (j:=0) Dy).trans rfl;have Qg:=(A0 (j:=1) Dy).trans rfl;have agZ:=YI Cj hT.fh Ci;have hno:=nJ hT Ci;have Gn:Hid (∀V,Below w.heap.size w V->Calls Tryz.prog 198 #[ac T.tb,.agg #[.bool (AQ (F4 L.reverse i)),ab (AP (F4 L.reverse i))]] V λe w'=>e=.returned (.tuple #[.int .u32 (E6 T.k (F4 L.reverse i)).1,.bool false])/\Below V.heap.size V w'):=hid λV hb=>by
   have h:=UG V _ _ _ _ _ _ _ _ _ _ _ (Gu.out V hb).1.fc (F4 L.reverse i) Ci;rw[hno]at h;exact h
  obtain⟨bp,Qi⟩:=qE (AQ (F4 L.reverse i));obtain⟨np,hnp⟩:=qE (AP (F4 L.reverse i));obtain⟨fp,hfp⟩:=qE ((E6 T.k (F4 L.reverse i)).1);rw[Qi]at Qf Gn;rw[hnp]at Qg Gn;rw[hfp]at Gn agZ;have HFP:=hid hfp;have hor:bits .or .u32 (0:Int) (fp:Int)=(fp:Int):=by
   have h:=QW (a:=0) (b:=fp) (by decide) agZ;rw[Nat.zero_or]at h;exact h
  have H2:=hid h2;have H45:=hid (And.intro h4 h5);clear Ci hno Qi hnp hfp Dy h2 h4 h5;have hlB:w.heap.size<W.heap.size:=by omega
  have Pm:w.heap.size+1<W.heap.size:=by omega
  have hwW:wk<W.heap.size:=by omega
  gi_wp2
  refine GB (S:=λw'=>w'.cell? (af w.heap.size 0)=some (ac wk)/\w'.cell? (af wk 0)=some (ac T.tb)/\w'.cell? (af pb 0)=some (.bool bp)/\w'.cell? (af pb 1)=some (ab np)) hmx yg Ka ⟨cB,c0W,Qf,Qg⟩ (λhH=>?_);refine tB 0 hH ?_;refine tB 1 hH ?_;refine tB 2 hH ?_;refine tB 3 hH ?_;refine tB 4 hH ?_;refine tB 5 hH ?_;refine tB 6 hH ?_;refine tL ?_;refine tS 7 λK hK=>?_
  refine tM ?_;rw[aq (by rfl)];go_simp;refine(Gn.out _ (H2.out.drew)).mono ?_;rintro e w6 ⟨rfl,yZ⟩;refine hK.out _ _ ?_ λhH=>?_
  ·exact⟨(yZ.cell (by exact hlB)).trans hH.1,(yZ.cell (by exact hwW)).trans hH.2.1,(yZ.cell (by exact Hy)).trans hH.2.2.1,(yZ.cell (by exact Hy)).trans hH.2.2.2⟩
  clear hK K;refine tB 8 hH ?_;refine tB 9 hH ?_;refine tB 10 hH ?_;refine tB 11 hH ?_;refine tB 12 hH ?_;refine tL ?_;refine bk yg ?_ _;clear hH;have Qt:Below W.heap.size W w6:=(ah _ W).drew.trans yZ;have cN6:=(Qt.cell (p:=(af (w.heap.size+1) 0)) (by exact Pm)).trans cN;have fN6:=(Qt.frozen (p:=(af (w.heap.size+1) 0)) (by exact Pm)).trans fN;have Co:=hid Qt;clear yZ Qt cB cN fN Qf Qg c0W
  gi_wp2
  have hk:A1 W (w6.setCell (af (w.heap.size+1) 0) (.int .u32 (fp:Int))) [w.heap.size+1]:=(A1.yX Co.out _).setCell (by simp) _;refine⟨G6 hk (λq hq=>by rw[mS.1 hq];exact⟨_,_,_,H45.out.2⟩),rfl,H2.out.trans (hk.below (by omega) (λq hq=>by rw[mS.1 hq];omega)),(hk.block _ hlB (by simp)).trans H45.out.1,_,rfl,?_⟩;rw[HFP.out];exact A6 ((Co.out.block _ Pm).trans H45.out.2) _
 case done=>
  rintro D ys W hD hys ⟨rfl,h2,h3,h4,h5⟩ hK;have Nd:L=[]:=by
   have h1:=congrArg List.length hys;simp at h1;exact List.length_eq_zero_iff.1 h1.symm
  have hx:K8 T L=0:=by rw[Nd];rfl
  have cB:W.cell? (af w.heap.size 0)=some (ac wk):=(A0 h4).trans rfl;have cN:W.cell? (af (w.heap.size+1) 0)=some (.int .u32 (K8 T L)):=by rw[hx];exact(A0 h5).trans rfl
  have c0W:=(h2.cell (p:=(af wk 0)) Gd).trans c0;have H2:=hid h2;obtain⟨sx,Yz⟩:=qE (K8 T L);rw[Yz]at cN;have HSX:=hid Yz;clear h2 h4 h5 hx Nd hys Yz;have Eu:w.heap.size<=D:=by omega
  exact agY
 case stop=>
  rintro D c pre W hD ⟨k,hk,hys⟩ ⟨rfl,h2,h4,y,rfl,h5⟩ hK;have hx:K8 T L=(E6 T.k (F4 L.reverse y.1.1)).1:=by
   have h1:=congrArg List.length hys;simp at h1;have h3:L.length=k+1:=by omega
   have h8:(List.range L.length).reverse.head?=some k:=by rw[h3,LI];rfl
   rw[<-hys]at h8;have h9:y.1.1=k:=by simpa using h8
   have h6:L.reverse[k]?=L[0]?:=by
    rw[List.getElem?_reverse (by omega)]
    congr 1;omega
   rw[h9];clear hys h1 h8 h9 h5;clear y;cases L with
   |nil=>simp at h3
   |cons p s=>
    have h7:F4 (p::s).reverse k=p:=NE (h6.trans rfl);rw[h7];rfl
  have cB:W.cell? (af w.heap.size 0)=some (ac wk):=(A0 h4).trans rfl;have cN:W.cell? (af (w.heap.size+1) 0)=some (.int .u32 (K8 T L)):=by rw[hx];exact(A0 h5).trans rfl
  have c0W:=(h2.cell (p:=(af wk 0)) Gd).trans c0;have H2:=hid h2;obtain⟨sx,Yz⟩:=qE (K8 T L);rw[Yz]at cN;have HSX:=hid Yz;have Eu:w.heap.size<=D:=by omega
  clear h2 h4 h5 hx hys Yz hk;exact agY
end
section
structure AV (B:Nat) (w w':World):Prop where
 os:w'.os=w.os
 tape:w'.tape=w.tape
 output:w'.output=w.output
 size:w.heap.size<=w'.heap.size
 block:∀k,k<w.heap.size->(k<B\/∃c f,w.heap[k]?=some (.cells c 201 f))->w'.heap[k]?=w.heap[k]?
theorem AV.refl (B:Nat) (w:World):AV B w w:=⟨rfl,rfl,rfl,yF _,λ_ _ _=>rfl⟩
theorem AV.trans {a b c:World} (h:AV B a b) (k:AV B b c):AV B a c:=
 ⟨k.os.trans h.os,k.tape.trans h.tape,k.output.trans h.output,y5 h.size k.size,λi hi hc=>by
  have h1:=h.block i hi hc;exact(k.block i (lL hi h.size) (hc.imp id (λ⟨c,f,h2⟩=>⟨c,f,h1.trans h2⟩))).trans h1⟩
theorem AV.Kk {S:List Nat} (h:A1 w w' S) (hS:∀q∈S,B<=q/\∃c e f,w.heap[q]?=some (.cells c e f)/\e≠201):AV B w w':=
 ⟨h.os,h.tape,h.output,h.size,λk hk hc=>h.block k hk (λhm=>by
  obtain⟨h1,c,e,f,h2,h3⟩:=hS k hm
  rcases hc with hc | ⟨c',f',hc⟩
  ·omega
  ·rw[h2]at hc
   injection hc with hc
   injection hc with _ hc
   exact h3 hc)⟩
theorem AV.yX  (h:Below w.heap.size w w'):AV B w w':=.Kk (A1.yX h []) (λq hq=>by cases hq)
theorem AV.below  (h:AV B w w') (hB:B<=w.heap.size):Below B w w' where
 os:=h.os
 tape:=h.tape
 output:=h.output
 size:=h.size
 block:=λk hk=>h.block k (by omega) (.inl hk)
structure rE where
 e:Nat
 sz:Nat
 v:Value
 n:Nat
 xs:List Value
def Sl (j:Nat):Prop:=j=3\/j=5\/j=6\/j=8\/j=10
def V7 (e:Nat):Prop:=e=3\/e=9\/e=39\/e=121
theorem V7.ne {e:Nat} (h:V7 e):e≠197/\e≠230/\e≠235/\e≠201:=by
 rcases h with h |h |h |h <;> subst h <;> decide
structure At (T:zn) (w:World) (mb wk B:Nat) (rv:Value) (a c:Nat) (f:Nat->rE) (ws:Value) (L:List Pt) (x:Nat) (xs:List Value) (X:List (List ByteArray)):Prop where
 blk:w.heap[mb]?=some (.cells #[ac T.tb,rv,ab a,(f 3).v,ac wk,(f 5).v,(f 6).v,ab c,(f 8).v,.slice none 0 0,(f 10).v] 197 (0,0))
 rows:∀j,Sl j->w.ownsRow B (f j).e (f j).sz (f j).v (f j).n (f j).xs
 kind:∀j,Sl j->V7 (f j).e
 ap:∀j j',Sl j->Sl j'->j≠j'->∀g,(f j).v.ownBlock=some g->(f j').v.ownBlock≠some g
 Gz:Ah w wk T.tb B ws L x
 len:X.length=xs.length
 ex:∀(i:Nat) u l,xs[i]?=some u->X[i]?=some l->DO w B u l
 ea:∀u∈xs,∀j,Sl j->∀g,u.ownBlock=some g->(f j).v.ownBlock≠some g
 Oq:B<=mb
 Ot:B<=wk
section
variable {T:zn}{w w' Wa w1:World}{mb wk B a c x:Nat}{rv ws:Value}{f f':Nat->rE}{L:List Pt}{xs:List Value}{X:List (List ByteArray)}
theorem At.Tb (h:At T w mb wk B rv a c f ws L x xs X):mb<w.heap.size:=ak h.blk
theorem At.keeps {S:List Nat} (h:At T w mb wk B rv a c f ws L x xs X) (hk:A1 w w' S) (h1:mb∉S) (h2:∀j,Sl j->∀g,(f j).v.ownBlock=some g->g∉S) (h3:wk∉S) (h4:∀g,ws.ownBlock=some g->g∉S) (h5:∀u∈xs,∀g,u.ownBlock=some g->g∉S):At T w' mb wk B rv a c f ws L x xs X where
 blk:=(hk.block mb h.Tb h1).trans h.blk
 rows:=λj hj=>A7 (h.rows j hj) hk (h2 j hj)
 kind:=h.kind
 ap:=h.ap
 Gz:=h.Gz.keeps hk h3 h4
 len:=h.len
 ex:=λi u l hu hl=>A7 (h.ex i u l hu hl) hk (h5 u (mG hu))
 ea:=h.ea
 Oq:=h.Oq
 Ot:=h.Ot
theorem At.below (h:At T w mb wk B rv a c f ws L x xs X) (hb:Below w.heap.size w w'):At T w' mb wk B rv a c f ws L x xs X:=h.keeps (A1.yX hb []) (by simp) (λ_ _ _ _=>by simp) (by simp) (λ_ _=>by simp) (λ_ _ _ _=>by simp)
theorem At.rk (h:At T w mb wk B rv a c f ws L x xs X) {j:Nat} (hj:Sl j):∀q∈mb::(f j).v.ownBlock.toList,B<=q/\∃c e f,w.heap[q]?=some (.cells c e f)/\e≠201:=λq hq=>by
 rcases bh.1 hq with e |e
 ·subst e;exact⟨h.Oq,_,_,_,h.blk,by decide⟩
 ·have e:(f j).v.ownBlock=some q:=by simpa using e
  obtain⟨c,h1⟩:=BI (h.rows j hj) e;exact⟨((h.rows j hj).lt q e).1,_,_,_,h1,(h.kind j hj).ne.2.2.2⟩
theorem At.far (h:At T w mb wk B rv a c f ws L x xs X) {j:Nat} (hj:Sl j):
  (∀j',Sl j'->j'≠j->∀g,(f j').v.ownBlock=some g->g∉mb::(f j).v.ownBlock.toList)/\wk∉mb::(f j).v.ownBlock.toList/\(∀g,ws.ownBlock=some g->g∉mb::(f j).v.ownBlock.toList)/\(∀u∈xs,∀l,DO w B u l->∀g,u.ownBlock=some g->g∉mb::(f j).v.ownBlock.toList):=by
 refine⟨λj' hj' hne g hg hm=>?_,λhm=>?_,λg hg hm=>?_,λu hu l hl g hg hm=>?_⟩
 ·rcases bh.1 hm with e |e
  ·subst e;exact A5 (h.rows j' hj') h.blk (h.kind j' hj').ne.1 hg
  ·exact h.ap j' j hj' hj hne g hg Cp
 ·rcases bh.1 hm with e |e
  ·have h1:=h.Gz.1
   rw[e,h.blk]at h1;injection h1 with h1
   injection h1 with _ h1
   exact absurd h1 (by decide)
  ·exact A5 (h.rows j hj) h.Gz.1 (h.kind j hj).ne.2.1 Cp
 ·rcases bh.1 hm with e |e
  ·subst e;exact A5 h.Gz.2 h.blk (by decide) hg
  ·exact GG h.Gz.2 (h.rows j hj) (λe2=>(h.kind j hj).ne.2.2.1 e2.symm) hg Cp
 ·rcases bh.1 hm with e |e
  ·subst e;exact A5 hl h.blk (by decide) hg
  ·exact h.ea u hu j hj g hg Cp
theorem At.app (h:At T w mb wk B rv a c f ws L x xs X) {j0:Nat} (hj:Sl j0) (hka:A1 w Wa []) (hgrow:Wa.grownBy w1 (f j0).v.ownBlock) (hown:w1.ownsRow B (f' j0).e (f' j0).sz (f' j0).v (f' j0).n (f' j0).xs) (he:(f' j0).e=(f j0).e) (hsz:(f' j0).sz=(f j0).sz) (hfr:BH w.heap.size (f j0).v (f' j0).v) (ho:∀j,Sl j->j≠j0->f' j=f j):
  w1.heap[mb]?=some (.cells #[ac T.tb,rv,ab a,(f 3).v,ac wk,(f 5).v,(f 6).v,ab c,(f 8).v,.slice none 0 0,(f 10).v] 197 (0,0))/\
   At T (w1.setCell (af mb j0) (f' j0).v) mb wk B rv a c f' ws L x xs X/\AV B w (w1.setCell (af mb j0) (f' j0).v):=by
 have hrow:=h.rows j0 hj;rw[<-he,<-hsz]at hrow;obtain⟨z1,z2,z3,z4⟩:=EN (j:=j0) hka h.blk (by rw[he];exact(h.kind j0 hj).ne.1) hrow hown hgrow;obtain⟨f1,f2,f3,f4⟩:=h.far hj;have hlt:∀j,Sl j->∀g,(f j).v.ownBlock=some g->g<w.heap.size:=λj hj g hg=>CJ (h.rows j hj) hg
 refine⟨z1,⟨?_,λj hj'=>?_,λj hj'=>?_,λj j' h1 h2 hne g hg=>?_,h.Gz.keeps z4 f2 f3,h.len,λi u l hu hl=>A7 (h.ex i u l hu hl) z4 (f4 u (mG hu) l (h.ex i u l hu hl)),λu hu j hj' g hg=>?_,h.Oq,h.Ot⟩,AV.Kk z4 (h.rk hj)⟩
 ·rw[z2]
  rcases hj with e |e |e |e |e <;> subst e
  ·rw[ho 5 Ep (by decide),ho 6 Ep (by decide),ho 8 Ep (by decide),ho 10 Ep (by decide)];rfl
  ·rw[ho 3 Ep (by decide),ho 6 Ep (by decide),ho 8 Ep (by decide),ho 10 Ep (by decide)];rfl
  ·rw[ho 3 Ep (by decide),ho 5 Ep (by decide),ho 8 Ep (by decide),ho 10 Ep (by decide)];rfl
  ·rw[ho 3 Ep (by decide),ho 5 Ep (by decide),ho 6 Ep (by decide),ho 10 Ep (by decide)];rfl
  ·rw[ho 3 Ep (by decide),ho 5 Ep (by decide),ho 6 Ep (by decide),ho 8 Ep (by decide)];rfl
 ·by_cases e:j=j0
  ·subst e;exact z3
  ·rw[ho j hj' e];exact A7 (h.rows j hj') z4 (f1 j hj' e)
 ·by_cases e:j=j0
  ·subst e;rw[he];exact h.kind j hj
  ·rw[ho j hj' e];exact h.kind j hj'
 ·by_cases e:j=j0
  ·subst e
   rw[ho j' h2 (λe=>hne e.symm)]
   rcases hfr g hg with h3 |h3
   ·exact h.ap j j' h1 h2 hne g h3
   ·intro h4;have:=hlt j' h2 g h4;omega
  ·rw[ho j h1 e]at hg
   by_cases e2:j'=j0
   ·subst e2
    intro h4
    rcases hfr g h4 with h3 |h3
    ·exact h.ap j j' h1 h2 hne g hg h3
    ·have:=hlt j h1 g hg;omega
   ·rw[ho j' h2 e2];exact h.ap j j' h1 h2 hne g hg
 ·by_cases e:j=j0
  ·subst e
   intro h4
   rcases hfr g h4 with h3 |h3
   ·exact h.ea u hu j hj' g hg h3
   ·obtain⟨i,hi,Pa⟩:=jr.1 hu
    have hi2:i<X.length:=by rw[h.len];exact hi
    have h5:=h.ex i u X[i] (by rw[gE hi,Pa]) (gE hi2);have:=CJ h5 hg;omega
  ·rw[ho j hj' e];exact h.ea u hu j hj' g hg
theorem At.setAt (h:At T w mb wk B rv a c f ws L x xs X) (a':Nat):At T (w.setCell (af mb 2) (ab a')) mb wk B rv a' c f ws L x xs X/\AV B w (w.setCell (af mb 2) (ab a')):=by
 have hk:A1 w (w.setCell (af mb 2) (ab a')) [mb]:=(A1.refl w [mb]).setCell (by simp) _;have hS:∀{q:Nat},q∈ [mb]->q∈mb::(f 3).v.ownBlock.toList:=λhq=>by rw[mS.1 hq];exact eo ..
 have h3:Sl 3:=.inl rfl;obtain⟨_,f2,f3,f4⟩:=h.far h3;refine⟨⟨A6 (j:=2) h.blk _,λj hj=>A7 (h.rows j hj) hk (λg hg hm=>?_),h.kind,h.ap,h.Gz.keeps hk (λhm=>f2 (hS hm)) (λg hg hm=>f3 g hg (hS hm)),h.len,λi u l hu hl=>A7 (h.ex i u l hu hl) hk (λg hg hm=>f4 u (mG hu) l (h.ex i u l hu hl) g hg (hS hm)),h.ea,h.Oq,h.Ot⟩,AV.Kk hk (λq hq=>h.rk h3 q (hS hq))⟩;have hm:=mS.1 hm;subst hm;exact A5 (h.rows j hj) h.blk (h.kind j hj).ne.1 hg
theorem At.aj2 (h:At T w mb wk B rv a c f ws L x xs X) (c':Nat):At T (w.setCell (af mb 7) (ab c')) mb wk B rv a c' f ws L x xs X/\AV B w (w.setCell (af mb 7) (ab c')):=by
 have hk:A1 w (w.setCell (af mb 7) (ab c')) [mb]:=(A1.refl w [mb]).setCell (by simp) _;have hS:∀{q:Nat},q∈ [mb]->q∈mb::(f 3).v.ownBlock.toList:=λhq=>by rw[mS.1 hq];exact eo ..
 have h3:Sl 3:=.inl rfl;obtain⟨_,f2,f3,f4⟩:=h.far h3;refine⟨⟨A6 (j:=7) h.blk _,λj hj=>A7 (h.rows j hj) hk (λg hg hm=>?_),h.kind,h.ap,h.Gz.keeps hk (λhm=>f2 (hS hm)) (λg hg hm=>f3 g hg (hS hm)),h.len,λi u l hu hl=>A7 (h.ex i u l hu hl) hk (λg hg hm=>f4 u (mG hu) l (h.ex i u l hu hl) g hg (hS hm)),h.ea,h.Oq,h.Ot⟩,AV.Kk hk (λq hq=>h.rk h3 q (hS hq))⟩;have hm:=mS.1 hm;subst hm;exact A5 (h.rows j hj) h.blk (h.kind j hj).ne.1 hg
theorem At.walk {ws':Value}{L':List Pt}{x':Nat} (h:At T w mb wk B rv a c f ws L x xs X) (hk:A1 w w' (wk::ws.ownBlock.toList)) (hw:Ah w' wk T.tb B ws' L' x'):At T w' mb wk B rv a c f ws' L' x' xs X/\AV B w w':=by
 have hS:∀q∈wk::ws.ownBlock.toList,B<=q/\∃c e f,w.heap[q]?=some (.cells c e f)/\(e=230\/e=235):=λq hq=>by
  rcases bh.1 hq with e |e
  ·subst e;exact⟨h.Ot,_,_,_,h.Gz.1,.inl rfl⟩
  ·have e:ws.ownBlock=some q:=by simpa using e
   obtain⟨c,h1⟩:=BI h.Gz.2 e;exact⟨(World.ownsRow.lt h.Gz.2 q e).1,_,_,_,h1,.inr rfl⟩
 have hne:∀{q:Nat}{c:Array Value}{e:Nat}{fr:Nat × Nat},w.heap[q]?=some (.cells c e fr)->e≠230->e≠235->q∉wk::ws.ownBlock.toList:=λh1 h2 h3 hm=>by
  obtain⟨_,c',e',f',h4,h5⟩:=hS _ hm;rw[h1]at h4;injection h4 with h4
  injection h4 with _ h4
  rcases h5 with h5 |h5
  ·exact h2 (h4.trans h5)
  ·exact h3 (h4.trans h5)
 refine⟨⟨(hk.block mb h.Tb (hne h.blk (by decide) (by decide))).trans h.blk,λj hj=>A7 (h.rows j hj) hk (λg hg=>?_),h.kind,h.ap,hw,h.len,λi u l hu hl=>A7 (h.ex i u l hu hl) hk (λg hg=>?_),h.ea,h.Oq,h.Ot⟩,AV.Kk hk (λq hq=>?_)⟩
 ·obtain⟨c,h1⟩:=BI (h.rows j hj) hg
  exact hne h1 (h.kind j hj).ne.2.1 (h.kind j hj).ne.2.2.1
 ·obtain⟨c,h1⟩:=BI (h.ex i u l hu hl) hg
  exact hne h1 (by decide) (by decide)
 ·obtain⟨h1,c,e,f,h2,h3⟩:=hS q hq
  exact⟨h1,c,e,f,h2,by rcases h3 with h3 |h3 <;> subst h3 <;> decide⟩
theorem At.aj3 {u:Value}{l:List ByteArray}{w0:World} (h:At T w mb wk B rv a c f ws L x xs X) (hu:DO w B u l) (hn:∀g,u.ownBlock=some g->w0.heap.size<=g) (h0:∀j,Sl j->∀g,(f j).v.ownBlock=some g->g<w0.heap.size):At T w mb wk B rv a c f ws L x (xs++ [u]) (X++ [l]) where
 blk:=h.blk
 rows:=h.rows
 kind:=h.kind
 ap:=h.ap
 Gz:=h.Gz
 len:=by simp[h.len]
 ex:=λi u' l' h1 h2=>by
  have hl:=h.len
  rcases jw i xs.length with h3 |h3
  ·rw[aL h3]at h1
   rw[aL (by omega)]at h2;exact h.ex i u' l' h1 h2
  ·rw[zQ h3]at h1
   rw[zQ (by omega)]at h2;have e1:u'=u:=by
    have:=mG h1;simpa using this
   have e2:l'=l:=by
    have:=mG h2;simpa using this
   rw[e1,e2];exact hu
 ea:=λu' hu' j hj g hg h4=>by
  rcases gj.1 hu' with h5 |h5
  ·exact h.ea u' h5 j hj g hg h4
  ·rw[mS.1 h5]at hg
   have:=hn g hg;have:=h0 j hj g h4;omega
 Oq:=h.Oq
 Ot:=h.Ot
end
end
end Go.Proofs.YtjjggdcnpndgjaaGreatDoor
