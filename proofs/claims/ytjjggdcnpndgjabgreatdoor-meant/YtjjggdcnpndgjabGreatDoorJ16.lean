import Derived.Test.YtjjggdcnpndgjabGreatDoorJ15
set_option linter.unusedSimpArgs false
set_option maxHeartbeats 4000000
set_option maxRecDepth 100000
namespace Go.Proofs.YtjjggdcnpndgjabGreatDoor
open Go.RowKit Go.Shelf
variable {N:NG}{k:List Fa}
theorem JW {P:Program}{fn:Func}{p t u:Tmp}{ty:TypeId} (h:fn.results= #[.cell p ty,.tmp t,.tmp u]) (tmps:Array Value) (w:World) (g:Nat) (t':TypeId) (cs:Array Value) (fr:Nat × Nat) (d:TypeDesc)
  (hp:tmps.getD p undef=ac g) (hg:w.heap[g]?=some (.cells cs t' fr)) (hu:P.underlying ty=some d) (hd:(match d with | .struct _ | .array _ _=>true |_=>false)=true) (hi:(P.info? ty).map (·.size)=some cs.size):
  (results fn tmps).run P w=.ok (.tuple #[.agg cs,tmps.getD t undef,tmps.getD u undef]) w:=by
 have hp':tmps[p]?.getD undef=ac g:=by simpa using hp
 simp[results,h,hp',asAddr,run_loadVar_row w g t' ty cs fr d hg hu hd hi,Result.andThen]
theorem ZW  (h:I2 N k) (n:Nat):EP k n=false:=by
 unfold EP;cases hk:k[n]? with
 |none=>rfl
 |some a=>exact(h.only a (mG hk)).1
theorem aP  (h:I2 N k) (n:Nat):AL k n=0:=by
 unfold AL;cases hk:k[n]? with
 |none=>rfl
 |some a=>exact(h.only a (mG hk)).2.1
theorem bQ  (h:I2 N k) (n:Nat):B2 k n=0:=by
 unfold B2;cases hk:k[n]? with
 |none=>rfl
 |some a=>exact(h.only a (mG hk)).2.2
theorem Mz16 {P:Prop} (h:P:=by
  ·have hne:((er:Int)==0)=false:=by simpa using her
   go_wp2_with (refine HCF.out.mono ?_;rintro e w7 ⟨rfl,hb7⟩;have Z7:=(hb7.block w.heap.size (lt_of_block HX6.out.2.2.1)).trans HX6.out.2.2.1;have r0:w7.cell? (af w.heap.size 0)=some (.slice none 0 0):=A0 Z7;have r1:w7.cell? (af w.heap.size 1)=some (.slice none 0 0):=A0 Z7;have r2:w7.cell? (af w.heap.size 2)=some (.slice none 0 0):=A0 Z7;have t0:w7.frozen? (af w.heap.size 0)=false:=A3 Z7;have t1:w7.frozen? (af w.heap.size 1)=false:=A3 Z7;have t2:w7.frozen? (af w.heap.size 2)=false:=A3 Z7;have HB7:Hid (Below w.heap.size w w7):=hid (HX6.out.2.1.trans (hb7.mono HX6.out.2.1.size));have HZ7:=hid Z7;clear hb7 Z7 HCF)
   have hrow:=A5 (j:=2) (A5 (j:=1) (A5 (j:=0) HZ7.out (.slice none 0 0)) (.slice none 0 0)) (.slice none 0 0);have hkw':A1 w7 (((w7.setCell (af w.heap.size 0) (.slice none 0 0)).setCell (af w.heap.size 1) (.slice none 0 0)).setCell (af w.heap.size 2) (.slice none 0 0)) [w.heap.size]:=(((A1.refl w7 [w.heap.size]).setCell (by simp) _).setCell (by simp) _).setCell (by simp) _;refine⟨rfl,_,JW (p:=2) (t:=3) (u:=4) (ty:=72) rfl _ _ w.heap.size _ _ _ _ rfl hrow Tryz.underlying72 rfl y1Z,?_⟩;exact⟨HB7.out.trans (hkw'.below HB7.out.size (fun q hq=>by have:=mS.1 hq;omega)),k1,k2,HFd.out,.inl ⟨by rw[HPE.out];exact her,by rw[HPE.out];rfl⟩⟩):P:=h
theorem Mz17 {P:Prop} (h:P:=by
  refine⟨rfl,_,JW (p:=2) (t:=3) (u:=4) (ty:=72) rfl _ _ w.heap.size _ _ _ _ rfl hrow Tryz.underlying72 rfl y1Z,?_⟩;refine⟨HX9.out.2.1.trans (hkw'.below HX9.out.2.1.size (fun q hq=>by have:=mS.1 hq;omega)),k1,k2,HFd.out,.inr ⟨by rw[HPE.out],k3,k4,w1.heap.size,_,adT,capT,gN,capN,HX8.out.2.2.2.1,HX8.out.2.2.2.2.1,HX9.out.2.2.1,HX9.out.2.2.2.1,rfl,by omega,HPR.out _ (fun q hq1 hq2=>?_),HX9.out.1.kn.keeps hkw' y2Z,by omega⟩⟩;have hc9:=HX9.out.2.2.2.2.2;rw[World.size_alloc]at hq1;exact(hkw'.block q (by have:=hc9.size;omega) y2Z).trans (hc9.block q hq2)):P:=h
theorem rK (s:ByteArray) (w:World) (N:NG) (tws:List ByteArray) (pg:List Nm)
  (hS:∀W,Below w.heap.size w W->Calls Tryz.prog 35 #[.string s] W fun e w'=>∃adT capT gN capN,e=.returned (.tuple #[.agg #[.slice adT N.nT capT,ae gN N.nN capN],ab 0])/\(∀W'',(∀q,W.heap.size<=q->q<w'.heap.size->W''.heap[q]?=w'.heap[q]?)->PGr W'' w'.heap.size N tws pg adT capT gN capN)/\Below W.heap.size W w'):
  Calls Tryz.prog 22 #[.string s] w fun e w'=>wE N tws pg w e w':=by
 obtain⟨i0,hi,hz0,hz1,hz2⟩:=info_parts Tryz.info151;have HS:=hid hS;clear hS
 go_enter Tryz.func22,Tryz.ntmps22
 go_wp2_with (go_at_call 35;refine(HS.out _ (bal (Below.refl _ _))).mono ?_;rintro e w1 ⟨adT,capT,gN,capN,rfl,hPR,hb1⟩;have hP:=hPR w1 (fun _ _ _=>rfl);have HPR:=hid hPR;clear hPR)
 have hn20:=hP.leN;have hp0:=hP.ok.pos;have HP:=hid hP;obtain⟨nN,hn1⟩:=qF (N.nN);rw[<-hn1]at hn20 hp0 ⊢;have HN:Hid (nN=N.nN):=hid hn1;have HB1:=hid hb1;have HBw1:Hid (Below w.heap.size w w1):=hid ((bal (Below.refl _ _)).trans (HB1.out.mono (by simp)));have Z1:w1.heap[w.heap.size]?=some (.cells #[.slice none 0 0,.slice none 0 0,.slice none 0 0] 72 (0,0)):=(HB1.out.block w.heap.size (by simp)).trans (World.alloc_heap_new w _);have g0:=BG w1 #[.slice adT N.nT capT,ae gN nN capN] 69 0;have g1:=BG w1 #[.slice adT N.nT capT,ae gN nN capN] 69 1;have hsb:w1.heap.size< (w1.alloc (.cells #[.slice adT N.nT capT,ae gN nN capN] 69)).heap.size:=by rw[World.size_alloc];omega
 have HW2:Hid (Below w1.heap.size w1 (w1.alloc (.cells #[.slice adT N.nT capT,ae gN nN capN] 69))):=hid (bal (Below.refl _ _));obtain⟨W2,hW2⟩:=qE (w1.alloc (.cells #[.slice adT N.nT capT,ae gN nN capN] 69));rw[hW2]at g0 g1 hsb HW2 ⊢;have HBW2:Hid (Below w.heap.size w W2):=hid (HBw1.out.trans (HW2.out.mono HBw1.out.size));have Z2:Hid (W2.heap[w.heap.size]?=some (.cells #[.slice none 0 0,.slice none 0 0,.slice none 0 0] 72 (0,0))):=hid ((HW2.out.block w.heap.size (lt_of_block Z1)).trans Z1);have hwz:=lt_of_block Z2.out;have hz12:w1.heap.size<=W2.heap.size:=HW2.out.size;have hw01:w.heap.size<w1.heap.size:=lt_of_block Z1;clear hW2 hP hb1 hn1 Z1;have g0:W2.cell? (af w1.heap.size 0)=some (.slice adT N.nT capT):=g0;have g1:W2.cell? (af w1.heap.size 1)=some (ae gN nN capN):=g1;refine AE (fun w'=>w'.cell? (af w1.heap.size 0)=some (.slice adT N.nT capT)/\w'.cell? (af w1.heap.size 1)=some (ae gN nN capN)) y1Z y1Z ⟨g0,g1⟩ (fun hH=>?_)
 simp only[AC,BM,AO];refine tB 0 hH ?_;refine tB 1 hH ?_;refine tB 2 hH ?_;refine tB 3 hH ?_;refine tL ?_;refine wpAnyH_ready (rs:=[4,6]) y1Z (by simp) ?_;refine AllReadyH.cons rfl (fun K hK=>?_) (AllReadyH.cons rfl (fun K hK=>?_) AllReadyH.nil)
 ·try simp only[List.getElem_toArray,List.getElem_cons_succ,List.getElem_cons_zero]
  rw[if_pos (by rfl)];refine G7 _ (.tmp 22) (.tmp 22) 70 rfl 151 i0 (.agg #[ab 0,.bool false,.int .u32 0,.int .u32 0]) Tryz.underlying70 hi hz0 nN rfl rfl (by rw[hz2];omega) (by omega) ?_;rw[hz1];refine hK.out _ _ ?_ fun hH=>?_
  ·exact⟨A2 _ hH.1,A2 _ hH.2⟩
  clear hK K
  try simp only[Act.put,List.setIfInBounds_toArray,List.set_cons_zero,List.set_cons_succ]
  refine tB 5 hH ?_;refine tL ?_;refine tS 6 fun K hK=>?_
  refine tM ?_;go_simp;refine hK.out _ _ ?_ fun hH=>?_
  ·exact⟨A2 _ hH.1,A2 _ hH.2⟩
  clear hK K;refine tB 7 hH ?_;refine tL ?_;refine wpAnyH_done y1Z ?_ _;clear hH;show wpList _ _ _ _ _ _
  go_wp2_with fail
  have K4:KnV (W2.alloc (.cells (madeCells #[ab 0,.bool false,.int .u32 0,.int .u32 0] (nN*4)) 151)) W2.heap.size nN (GL nN 0):=gC W2 nN hn20;have X4:FcM ((W2.alloc (.cells (madeCells #[ab 0,.bool false,.int .u32 0,.int .u32 0] (nN*4)) 151)).alloc (.cells #[.slice adT N.nT capT,ae gN nN capN,ae W2.heap.size nN nN] 72)).drew w1.heap.size (W2.heap.size+1) W2.heap.size N tws pg adT capT gN capN (GL N.nN 0):=by
   have e:=fun j=>BG (W2.alloc (.cells (madeCells #[ab 0,.bool false,.int .u32 0,.int .u32 0] (nN*4)) 151)) #[.slice adT N.nT capT,ae gN nN capN,ae W2.heap.size nN nN] 72 j
   rw[World.size_alloc,HN.out]at e;rw[HN.out]at K4 ⊢;exact {gr:=HP.out.below (bdr (bal (bal HW2.out))),n0:=HW2.out.size,ne:=by omega,lf:=by show _< (World.alloc _ _).heap.size;rw[World.size_alloc,World.size_alloc];omega,f0:=e 0,f1:=e 1,f2:=e 2,kn:=K4.keeps (((A1.refl _ []).alloc _).drew) (by simp)}
  have HB4:Hid (Below w.heap.size w ((W2.alloc (.cells (madeCells #[ab 0,.bool false,.int .u32 0,.int .u32 0] (nN*4)) 151)).alloc (.cells #[.slice adT N.nT capT,ae gN nN capN,ae W2.heap.size nN nN] 72)).drew):=hid (bdr (bal (bal HBW2.out)));have HC4:Hid (Below w1.heap.size w1 ((W2.alloc (.cells (madeCells #[ab 0,.bool false,.int .u32 0,.int .u32 0] (nN*4)) 151)).alloc (.cells #[.slice adT N.nT capT,ae gN nN capN,ae W2.heap.size nN nN] 72)).drew):=hid (bdr (bal (bal HW2.out)));have Z4:Hid (((W2.alloc (.cells (madeCells #[ab 0,.bool false,.int .u32 0,.int .u32 0] (nN*4)) 151)).alloc (.cells #[.slice adT N.nT capT,ae gN nN capN,ae W2.heap.size nN nN] 72)).drew.heap[w.heap.size]?=some (.cells #[.slice none 0 0,.slice none 0 0,.slice none 0 0] 72 (0,0))):=hid (((bdr (bal (bal (Below.refl W2.heap.size W2)))).block w.heap.size (lt_of_block Z2.out)).trans Z2.out);clear K4;refine(QC _ _ _ _ N tws pg adT capT gN capN X4).mono ?_
  rintro e w5 ⟨rfl,hk5,k1,hi1,hs1,hv1⟩;have X5:=X4.keeps hk5 hv1;have B5:Below w.heap.size w w5:=HB4.out.trans (hk5.below HB4.out.size (fun q hq=>by have:=mS.1 hq;omega));have C5:Below w1.heap.size w1 w5:=HC4.out.trans (hk5.below HC4.out.size (fun q hq=>by have:=mS.1 hq;omega));have Z5:=(hk5.block w.heap.size (lt_of_block Z4.out) y2Z).trans Z4.out;have HX5:=hid (And.intro X5 (And.intro B5 (And.intro Z5 (And.intro hi1 (And.intro hs1 C5)))));have CR:=NR _ _ _ _ N tws pg adT capT gN capN k1 X5 (ZW hi1);have HCR:=hid CR;clear CR X5 B5 Z5 C5 hi1 hs1 hv1 hk5 X4 HB4 Z4 HC4
  go_wp2_with fail
  refine HCR.out.mono ?_;rintro e w6 ⟨rfl,hk6,k2,hi2,hs2,hv2⟩;have X6:=HX5.out.1.keeps hk6 hv2;have B6:Below w.heap.size w w6:=HX5.out.2.1.trans (hk6.below HX5.out.2.1.size (fun q hq=>by have:=mS.1 hq;omega));have C6:Below w1.heap.size w1 w6:=HX5.out.2.2.2.2.2.trans (hk6.below HX5.out.2.2.2.2.2.size (fun q hq=>by have:=mS.1 hq;omega));have Z6:=(hk6.block w.heap.size (lt_of_block HX5.out.2.2.1) y2Z).trans HX5.out.2.2.1;have HFd:Hid (S9 N k1 k2):=hid ⟨HX5.out.2.2.2.1,HX5.out.2.2.2.2.1,hi2,hs2⟩;have CF:=YF _ _ _ _ N tws pg adT capT gN capN k2 X6;obtain⟨nm,er,hpe⟩:∃nm er,FG pg k2=(nm,er):=⟨_,_,rfl⟩;rw[hpe]at CF;have HX6:=hid (And.intro X6 (And.intro B6 (And.intro Z6 C6)));have HPE:=hid hpe;have HCF:=hid CF;clear X6 B6 Z6 C6 hi2 hs2 hv2 hk6 hpe CF HCR HX5
  by_cases her:er=0
  ·subst her
   go_wp2_with fail
   refine HCF.out.mono ?_;rintro e w7 ⟨rfl,hb7⟩;have X7:=HX6.out.1.below hb7;have B7:Below w.heap.size w w7:=HX6.out.2.1.trans (hb7.mono HX6.out.2.1.size);have C7:Below w1.heap.size w1 w7:=HX6.out.2.2.2.trans (hb7.mono HX6.out.2.2.2.size);have Z7:=(hb7.block w.heap.size (lt_of_block HX6.out.2.2.1)).trans HX6.out.2.2.1;have CH:=QB _ _ _ _ N tws pg adT capT gN capN k2 X7 (fun n=>by rw[HFd.out.i2.fh,aP HFd.out.i1]);have HX7:=hid (And.intro X7 (And.intro B7 (And.intro Z7 C7)));have HCH:=hid CH;clear X7 B7 Z7 C7 CH hb7 HX6 HCF
   go_wp2_with fail
   refine HCH.out.mono ?_;rintro e w8 ⟨rfl,hk8,k3,hi3,hs3,hv3⟩;have X8:=HX7.out.1.keeps hk8 hv3;have B8:Below w.heap.size w w8:=HX7.out.2.1.trans (hk8.below HX7.out.2.1.size (fun q hq=>by have:=mS.1 hq;omega));have C8:Below w1.heap.size w1 w8:=HX7.out.2.2.2.trans (hk8.below HX7.out.2.2.2.size (fun q hq=>by have:=mS.1 hq;omega));have Z8:=(hk8.block w.heap.size (lt_of_block HX7.out.2.2.1) y2Z).trans HX7.out.2.2.1;have CW:=OH _ _ _ _ N tws pg adT capT gN capN k3 X8 hi3.lt (fun n=>by rw[hi3.fo,HFd.out.i2.fo,bQ HFd.out.i1]);have HX8:=hid (And.intro X8 (And.intro B8 (And.intro Z8 (And.intro hi3 (And.intro hs3 C8)))));have HCW:=hid CW;clear X8 B8 Z8 C8 CW hi3 hs3 hv3 hk8 HX7 HCH
   go_wp2_with fail
   refine HCW.out.mono ?_;rintro e w9 ⟨rfl,hk9,k4,hi4,hs4,hv4⟩;have X9:=HX8.out.1.keeps hk9 hv4;have B9:Below w.heap.size w w9:=HX8.out.2.1.trans (hk9.below HX8.out.2.1.size (fun q hq=>by have:=mS.1 hq;omega));have C9:Below w1.heap.size w1 w9:=HX8.out.2.2.2.2.2.trans (hk9.below HX8.out.2.2.2.2.2.size (fun q hq=>by have:=mS.1 hq;omega));have Z9:=(hk9.block w.heap.size (lt_of_block HX8.out.2.2.1) y2Z).trans HX8.out.2.2.1;have q0:=X9.f0;have q1:=X9.f1;have q2:=X9.f2;have r0:w9.cell? (af w.heap.size 0)=some (.slice none 0 0):=A0 Z9;have r1:w9.cell? (af w.heap.size 1)=some (.slice none 0 0):=A0 Z9;have r2:w9.cell? (af w.heap.size 2)=some (.slice none 0 0):=A0 Z9;have t0:w9.frozen? (af w.heap.size 0)=false:=A3 Z9;have t1:w9.frozen? (af w.heap.size 1)=false:=A3 Z9;have t2:w9.frozen? (af w.heap.size 2)=false:=A3 Z9;have HX9:=hid (And.intro X9 (And.intro B9 (And.intro hi4 (And.intro hs4 (And.intro Z9 C9)))))
   clear X9 B9 Z9 C9 hi4 hs4 hv4 hk9 HCW
   go_wp2_with fail
   have hrow:=A5 (j:=2) (A5 (j:=1) (A5 (j:=0) HX9.out.2.2.2.2.1 (.slice adT N.nT capT)) (ae gN N.nN capN)) (ae W2.heap.size N.nN N.nN);have hkw':A1 w9 (((w9.setCell (af w.heap.size 0) (.slice adT N.nT capT)).setCell (af w.heap.size 1) (ae gN N.nN capN)).setCell (af w.heap.size 2) (ae W2.heap.size N.nN N.nN)) [w.heap.size]:=(((A1.refl w9 [w.heap.size]).setCell (by simp) _).setCell (by simp) _).setCell (by simp) _;exact Mz17
  exact Mz16
 ·try simp only[List.getElem_toArray,List.getElem_cons_succ,List.getElem_cons_zero]
  go_simp;refine hK.out _ _ ?_ fun hH=>?_
  ·exact⟨A2 _ hH.1,A2 _ hH.2⟩
  clear hK K
  try simp only[Act.put,List.setIfInBounds_toArray,List.set_cons_zero,List.set_cons_succ]
  refine tS 4 fun K hK=>?_
  refine tM ?_;rw[if_pos (by rfl)];refine G7 _ (.tmp 22) (.tmp 22) 70 rfl 151 i0 (.agg #[ab 0,.bool false,.int .u32 0,.int .u32 0]) Tryz.underlying70 hi hz0 nN rfl rfl (by rw[hz2];omega) (by omega) ?_;rw[hz1];refine hK.out _ _ ?_ fun hH=>?_
  ·exact⟨A2 _ hH.1,A2 _ hH.2⟩
  clear hK K;refine tL ?_;refine tB 5 hH ?_;refine tB 7 hH ?_;refine tL ?_;refine wpAnyH_done y1Z ?_ _;clear hH;show wpList _ _ _ _ _ _
  go_wp2_with fail
  have K4:KnV ((W2.alloc (.cells #[.slice adT N.nT capT,ae gN nN capN,ae (W2.heap.size+1) nN nN] 72)).alloc (.cells (madeCells #[ab 0,.bool false,.int .u32 0,.int .u32 0] (nN*4)) 151)) (W2.heap.size+1) nN (GL nN 0):=by
   have h1:=gC (W2.alloc (.cells #[.slice adT N.nT capT,ae gN nN capN,ae (W2.heap.size+1) nN nN] 72)) nN hn20;rw[World.size_alloc]at h1;exact h1
  have X4:FcM ((W2.alloc (.cells #[.slice adT N.nT capT,ae gN nN capN,ae (W2.heap.size+1) nN nN] 72)).alloc (.cells (madeCells #[ab 0,.bool false,.int .u32 0,.int .u32 0] (nN*4)) 151)).drew w1.heap.size W2.heap.size (W2.heap.size+1) N tws pg adT capT gN capN (GL N.nN 0):=by
   have e:=fun j=>BG W2 #[.slice adT N.nT capT,ae gN nN capN,ae (W2.heap.size+1) nN nN] 72 j
   rw[HN.out]at K4 e ⊢;exact {gr:=HP.out.below (bdr (bal (bal HW2.out))),n0:=by have:=HW2.out.size;omega,ne:=by omega,lf:=by show _< (World.alloc _ _).heap.size;rw[World.size_alloc,World.size_alloc];omega,f0:=A2 _ (e 0),f1:=A2 _ (e 1),f2:=A2 _ (e 2),kn:=K4.keeps ((A1.refl _ []).drew) (by simp)}
  have HB4:Hid (Below w.heap.size w ((W2.alloc (.cells #[.slice adT N.nT capT,ae gN nN capN,ae (W2.heap.size+1) nN nN] 72)).alloc (.cells (madeCells #[ab 0,.bool false,.int .u32 0,.int .u32 0] (nN*4)) 151)).drew):=hid (bdr (bal (bal HBW2.out)));have HC4:Hid (Below w1.heap.size w1 ((W2.alloc (.cells #[.slice adT N.nT capT,ae gN nN capN,ae (W2.heap.size+1) nN nN] 72)).alloc (.cells (madeCells #[ab 0,.bool false,.int .u32 0,.int .u32 0] (nN*4)) 151)).drew):=hid (bdr (bal (bal HW2.out)));have Z4:Hid (((W2.alloc (.cells #[.slice adT N.nT capT,ae gN nN capN,ae (W2.heap.size+1) nN nN] 72)).alloc (.cells (madeCells #[ab 0,.bool false,.int .u32 0,.int .u32 0] (nN*4)) 151)).drew.heap[w.heap.size]?=some (.cells #[.slice none 0 0,.slice none 0 0,.slice none 0 0] 72 (0,0))):=hid (((bdr (bal (bal (Below.refl W2.heap.size W2)))).block w.heap.size (lt_of_block Z2.out)).trans Z2.out);clear K4;refine(QC _ _ _ _ N tws pg adT capT gN capN X4).mono ?_
  rintro e w5 ⟨rfl,hk5,k1,hi1,hs1,hv1⟩;have X5:=X4.keeps hk5 hv1;have B5:Below w.heap.size w w5:=HB4.out.trans (hk5.below HB4.out.size (fun q hq=>by have:=mS.1 hq;omega));have C5:Below w1.heap.size w1 w5:=HC4.out.trans (hk5.below HC4.out.size (fun q hq=>by have:=mS.1 hq;omega));have Z5:=(hk5.block w.heap.size (lt_of_block Z4.out) y2Z).trans Z4.out;have HX5:=hid (And.intro X5 (And.intro B5 (And.intro Z5 (And.intro hi1 (And.intro hs1 C5)))));have CR:=NR _ _ _ _ N tws pg adT capT gN capN k1 X5 (ZW hi1);have HCR:=hid CR;clear CR X5 B5 Z5 C5 hi1 hs1 hv1 hk5 X4 HB4 Z4 HC4
  go_wp2_with fail
  refine HCR.out.mono ?_;rintro e w6 ⟨rfl,hk6,k2,hi2,hs2,hv2⟩;have X6:=HX5.out.1.keeps hk6 hv2;have B6:Below w.heap.size w w6:=HX5.out.2.1.trans (hk6.below HX5.out.2.1.size (fun q hq=>by have:=mS.1 hq;omega));have C6:Below w1.heap.size w1 w6:=HX5.out.2.2.2.2.2.trans (hk6.below HX5.out.2.2.2.2.2.size (fun q hq=>by have:=mS.1 hq;omega));have Z6:=(hk6.block w.heap.size (lt_of_block HX5.out.2.2.1) y2Z).trans HX5.out.2.2.1;have HFd:Hid (S9 N k1 k2):=hid ⟨HX5.out.2.2.2.1,HX5.out.2.2.2.2.1,hi2,hs2⟩;have CF:=YF _ _ _ _ N tws pg adT capT gN capN k2 X6;obtain⟨nm,er,hpe⟩:∃nm er,FG pg k2=(nm,er):=⟨_,_,rfl⟩;rw[hpe]at CF;have HX6:=hid (And.intro X6 (And.intro B6 (And.intro Z6 C6)));have HPE:=hid hpe;have HCF:=hid CF;clear X6 B6 Z6 C6 hi2 hs2 hv2 hk6 hpe CF HCR HX5
  by_cases her:er=0
  ·subst her
   go_wp2_with fail
   refine HCF.out.mono ?_;rintro e w7 ⟨rfl,hb7⟩;have X7:=HX6.out.1.below hb7;have B7:Below w.heap.size w w7:=HX6.out.2.1.trans (hb7.mono HX6.out.2.1.size);have C7:Below w1.heap.size w1 w7:=HX6.out.2.2.2.trans (hb7.mono HX6.out.2.2.2.size);have Z7:=(hb7.block w.heap.size (lt_of_block HX6.out.2.2.1)).trans HX6.out.2.2.1;have CH:=QB _ _ _ _ N tws pg adT capT gN capN k2 X7 (fun n=>by rw[HFd.out.i2.fh,aP HFd.out.i1]);have HX7:=hid (And.intro X7 (And.intro B7 (And.intro Z7 C7)));have HCH:=hid CH;clear X7 B7 Z7 C7 CH hb7 HX6 HCF
   go_wp2_with fail
   refine HCH.out.mono ?_;rintro e w8 ⟨rfl,hk8,k3,hi3,hs3,hv3⟩;have X8:=HX7.out.1.keeps hk8 hv3;have B8:Below w.heap.size w w8:=HX7.out.2.1.trans (hk8.below HX7.out.2.1.size (fun q hq=>by have:=mS.1 hq;omega));have C8:Below w1.heap.size w1 w8:=HX7.out.2.2.2.trans (hk8.below HX7.out.2.2.2.size (fun q hq=>by have:=mS.1 hq;omega));have Z8:=(hk8.block w.heap.size (lt_of_block HX7.out.2.2.1) y2Z).trans HX7.out.2.2.1;have CW:=OH _ _ _ _ N tws pg adT capT gN capN k3 X8 hi3.lt (fun n=>by rw[hi3.fo,HFd.out.i2.fo,bQ HFd.out.i1]);have HX8:=hid (And.intro X8 (And.intro B8 (And.intro Z8 (And.intro hi3 (And.intro hs3 C8)))));have HCW:=hid CW;clear X8 B8 Z8 C8 CW hi3 hs3 hv3 hk8 HX7 HCH
   go_wp2_with fail
   refine HCW.out.mono ?_;rintro e w9 ⟨rfl,hk9,k4,hi4,hs4,hv4⟩;have X9:=HX8.out.1.keeps hk9 hv4;have B9:Below w.heap.size w w9:=HX8.out.2.1.trans (hk9.below HX8.out.2.1.size (fun q hq=>by have:=mS.1 hq;omega));have C9:Below w1.heap.size w1 w9:=HX8.out.2.2.2.2.2.trans (hk9.below HX8.out.2.2.2.2.2.size (fun q hq=>by have:=mS.1 hq;omega));have Z9:=(hk9.block w.heap.size (lt_of_block HX8.out.2.2.1) y2Z).trans HX8.out.2.2.1;have q0:=X9.f0;have q1:=X9.f1;have q2:=X9.f2;have r0:w9.cell? (af w.heap.size 0)=some (.slice none 0 0):=A0 Z9;have r1:w9.cell? (af w.heap.size 1)=some (.slice none 0 0):=A0 Z9;have r2:w9.cell? (af w.heap.size 2)=some (.slice none 0 0):=A0 Z9;have t0:w9.frozen? (af w.heap.size 0)=false:=A3 Z9;have t1:w9.frozen? (af w.heap.size 1)=false:=A3 Z9;have t2:w9.frozen? (af w.heap.size 2)=false:=A3 Z9;have HX9:=hid (And.intro X9 (And.intro B9 (And.intro hi4 (And.intro hs4 (And.intro Z9 C9)))))
   clear X9 B9 Z9 C9 hi4 hs4 hv4 hk9 HCW
   go_wp2_with fail
   have hrow:=A5 (j:=2) (A5 (j:=1) (A5 (j:=0) HX9.out.2.2.2.2.1 (.slice adT N.nT capT)) (ae gN N.nN capN)) (ae (W2.heap.size+1) N.nN N.nN);have hkw':A1 w9 (((w9.setCell (af w.heap.size 0) (.slice adT N.nT capT)).setCell (af w.heap.size 1) (ae gN N.nN capN)).setCell (af w.heap.size 2) (ae (W2.heap.size+1) N.nN N.nN)) [w.heap.size]:=(((A1.refl w9 [w.heap.size]).setCell (by simp) _).setCell (by simp) _).setCell (by simp) _;exact Mz17
  exact Mz16
theorem NB {N:NG}{E:Nat->Bool}{t:Nat} (ht:N.nT<=t):∀ps:List Pt,AY N ps->DT E (fun _=>false) t ps=false
 | [],_=>rfl
 | .tok u::ps,h=>by
  have:=h.2 u (List.mem_cons_self ..);simp only[DT];simp;omega
 | .nam n::ps,h=>by
  simp only[DT,NB ht ps h.tail];simp
theorem LE {x t:Nat} (h:t∈B1 x):x.testBit t=true:=by
 unfold B1 at h;exact(List.mem_filter.1 h).2
theorem gL  (hN:N.Ok) {k0:List Fa} (h:I4 N k0 k) (n t:Nat) (ht:N.nT<=t):(AL k n).testBit t=false:=by
 cases hb:(AL k n).testBit t with
 |false=>rfl
 |true=>
  have h1:=h.sound t (fun _=>false) (fun r hr hb=>by rw[NB ht r.2 (hN.ps hr)]at hb;cases hb) n hb;cases h1
theorem eA  (hN:N.Ok) {k0:List Fa} (hf:∀n t,N.nT<=t->(AL k0 n).testBit t=false) (h:F9 N k0 k) (n t:Nat) (ht:N.nT<t):(B2 k n).testBit t=false:=by
 cases hb:(B2 k n).testBit t with
 |false=>rfl
 |true=>
  have h1:=h.sound t (fun _=>false) ⟨fun e=>by omega,fun r hr pre m post e hq=>by
   have hp:AY N post:=⟨fun q hq=>hN.pn r hr q y43Z,fun q hq=>hN.pt r hr q y43Z⟩;have hz:(fun n=>(AL k0 n).testBit t)=fun _=>false:=by funext n;exact hf n t (by omega)
   rw[hz,NB (by omega) post hp]at hq;simp at hq⟩ n hb
  cases h1
end Go.Proofs.YtjjggdcnpndgjabGreatDoor
