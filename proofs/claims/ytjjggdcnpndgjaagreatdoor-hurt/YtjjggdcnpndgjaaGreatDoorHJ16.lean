import Derived.Test.YtjjggdcnpndgjaaGreatDoorHJ15
set_option linter.unusedSimpArgs false
set_option maxHeartbeats 4000000
set_option maxRecDepth 100000
namespace Go.Proofs.YtjjggdcnpndgjaaGreatDoor
abbrev xK:=@Go.run_loadVar_row
open Go.RowKit Go.Shelf
variable {N:NG}{k:List Fa}
theorem JX {P:Program}{fn:Func}{p t u:Tmp}{ty:TypeId} (h:fn.results= #[.cell p ty,.tmp t,.tmp u]) (tmps:Array Value) (w:World) (g:Nat) (t':TypeId) (cs:Array Value) (fr:Nat × Nat) (d:TypeDesc)
  (hp:tmps.getD p undef=ac g) (hg:w.heap[g]?=some (.cells cs t' fr)) (hu:P.underlying ty=some d) (hd:(match d with | .struct _ | .array _ _=>true |_=>false)=true) (hi:(P.info? ty).map (·.size)=some cs.size):
  (results fn tmps).run P w=.ok (.tuple #[.agg cs,tmps.getD t undef,tmps.getD u undef]) w:=by
 have hp':tmps[p]?.getD undef=ac g:=by simpa using hp
 simp[results,h,hp',asAddr,xK w g t' ty cs fr d hg hu hd hi,Result.andThen]
theorem cI  (h:I2 N k) (n:Nat):ET k n=false:=by
 unfold ET;cases hk:k[n]? with
 |none=>rfl
 |some a=>exact(h.only a (mG hk)).1
theorem ZV  (h:I2 N k) (n:Nat):AL k n=0:=by
 unfold AL;cases hk:k[n]? with
 |none=>rfl
 |some a=>exact(h.only a (mG hk)).2.1
theorem ZI  (h:I2 N k) (n:Nat):B1 k n=0:=by
 unfold B1;cases hk:k[n]? with
 |none=>rfl
 |some a=>exact(h.only a (mG hk)).2.2
theorem afo {P:Prop} (h:P:=by
  ·have hne:((er:Int)==0)=false:=by simpa using her
   go_wp2_with (refine Gn.out.mono ?_;rintro e w7 ⟨rfl,Cm⟩;have Z7:=(Cm.block w.heap.size (ak Di.out.2.2.1)).trans Di.out.2.2.1;have r0:w7.cell? (af w.heap.size 0)=some (.slice none 0 0):=A0 Z7;have r1:w7.cell? (af w.heap.size 1)=some (.slice none 0 0):=A0 Z7;have r2:w7.cell? (af w.heap.size 2)=some (.slice none 0 0):=A0 Z7;have t0:w7.frozen? (af w.heap.size 0)=false:=A3 Z7;have t1:w7.frozen? (af w.heap.size 1)=false:=A3 Z7;have t2:w7.frozen? (af w.heap.size 2)=false:=A3 Z7;have Kq:Hid (Below w.heap.size w w7):=hid (Di.out.2.1.trans (Cm.mono Di.out.2.1.size));have HZ7:=hid Z7;clear Cm Z7 Gn)
   have hrow:=A6 (j:=2) (A6 (j:=1) (A6 (j:=0) HZ7.out (.slice none 0 0)) (.slice none 0 0)) (.slice none 0 0);have Rw:A1 w7 (((w7.setCell (af w.heap.size 0) (.slice none 0 0)).setCell (af w.heap.size 1) (.slice none 0 0)).setCell (af w.heap.size 2) (.slice none 0 0)) [w.heap.size]:=(((A1.refl w7 [w.heap.size]).setCell (by simp) _).setCell (by simp) _).setCell (by simp) _;refine⟨rfl,_,JX (p:=2) (t:=3) (u:=4) (ty:=138) rfl _ _ w.heap.size _ _ _ _ rfl hrow Tryz.underlying138 rfl yg,?_⟩;exact⟨Kq.out.trans (Rw.below Kq.out.size (λq hq=>by have:=mS.1 hq;omega)),k1,k2,Np.out,.inl ⟨by rw[HPE.out];exact her,by rw[HPE.out];rfl⟩⟩):P:=h
theorem afp {P:Prop} (h:P:=by
  refine⟨rfl,_,JX (p:=2) (t:=3) (u:=4) (ty:=138) rfl _ _ w.heap.size _ _ _ _ rfl hrow Tryz.underlying138 rfl yg,?_⟩;refine⟨Nq.out.2.1.trans (Rw.below Nq.out.2.1.size (λq hq=>by have:=mS.1 hq;omega)),k1,k2,Np.out,.inr ⟨by rw[HPE.out],k3,k4,w1.heap.size,_,yu,yl,gN,xY,Gp.out.2.2.2.1,Gp.out.2.2.2.2.1,Nq.out.2.2.1,Nq.out.2.2.2.1,rfl,by omega,HPR.out _ (λq Ev Kr=>?_),Nq.out.1.kn.keeps Rw yM,by omega⟩⟩;have Rx:=Nq.out.2.2.2.2.2;rw[bg]at Ev;exact(Rw.block q (by have:=Rx.size;omega) yM).trans (Rx.block q Kr)):P:=h
theorem qG (s:ByteArray) (w:World) (N:NG) (yL:List ByteArray) (pg:List Nm)
  (hS:∀W,Below w.heap.size w W->Calls Tryz.prog 105 #[.string s] W λe w'=>∃yu yl gN xY,e=.returned (.tuple #[.agg #[.slice yu N.nT yl,ae gN N.nN xY],ab 0])/\(∀W'',(∀q,W.heap.size<=q->q<w'.heap.size->W''.heap[q]?=w'.heap[q]?)->Ba W'' w'.heap.size N yL pg yu yl gN xY)/\Below W.heap.size W w'):
  Calls Tryz.prog 68 #[.string s] w λe w'=>vU N yL pg w e w':=by
 obtain⟨i0,hi,hz0,hz1,hz2⟩:=jc Tryz.info216;have HS:=hid hS;clear hS
 go_enter Tryz.func68,Tryz.ntmps68
 go_wp2_with (go_at_call 105;refine(HS.out _ (zl (ah _ _))).mono ?_;rintro e w1 ⟨yu,yl,gN,xY,rfl,hPR,hb1⟩;have hP:=hPR w1 (λ_ _ _=>rfl);have HPR:=hid hPR;clear hPR)
 have zU:=hP.Bt;have Tu:=hP.ok.pos;have HP:=hid hP;obtain⟨nN,hn1⟩:=qF (N.nN);rw[<-hn1]at zU Tu ⊢;have HN:Hid (nN=N.nN):=hid hn1;have yR:=hid hb1;have aaa:Hid (Below w.heap.size w w1):=hid ((zl (ah _ _)).trans (yR.out.mono (by simp)));have Z1:w1.heap[w.heap.size]?=some (.cells #[.slice none 0 0,.slice none 0 0,.slice none 0 0] 138 (0,0)):=(yR.out.block w.heap.size (by simp)).trans (ay w _);have g0:=BF w1 #[.slice yu N.nT yl,ae gN nN xY] 135 0;have g1:=BF w1 #[.slice yu N.nT yl,ae gN nN xY] 135 1;have hsb:w1.heap.size< (w1.alloc (.cells #[.slice yu N.nT yl,ae gN nN xY] 135)).heap.size:=by rw[bg];omega
 have Ak:Hid (Below w1.heap.size w1 (w1.alloc (.cells #[.slice yu N.nT yl,ae gN nN xY] 135))):=hid (zl (ah _ _));obtain⟨W2,hW2⟩:=qE (w1.alloc (.cells #[.slice yu N.nT yl,ae gN nN xY] 135));rw[hW2]at g0 g1 hsb Ak ⊢;have Jj:Hid (Below w.heap.size w W2):=hid (aaa.out.trans (Ak.out.mono aaa.out.size));have Z2:Hid (W2.heap[w.heap.size]?=some (.cells #[.slice none 0 0,.slice none 0 0,.slice none 0 0] 138 (0,0))):=hid ((Ak.out.block w.heap.size (ak Z1)).trans Z1);have hwz:=ak Z2.out;have ah1:w1.heap.size<=W2.heap.size:=Ak.out.size;have akN:w.heap.size<w1.heap.size:=ak Z1;clear hW2 hP hb1 hn1 Z1;have g0:W2.cell? (af w1.heap.size 0)=some (.slice yu N.nT yl):=g0;have g1:W2.cell? (af w1.heap.size 1)=some (ae gN nN xY):=g1;refine AE (λw'=>w'.cell? (af w1.heap.size 0)=some (.slice yu N.nT yl)/\w'.cell? (af w1.heap.size 1)=some (ae gN nN xY)) yg yg ⟨g0,g1⟩ (λhH=>?_)
 simp only[AB,BM,AO];refine tB 0 hH ?_;refine tB 1 hH ?_;refine tB 2 hH ?_;refine tB 3 hH ?_;refine tL ?_;refine wpAnyH_ready (rs:=[4,6]) yg (by simp) ?_;refine vp rfl (λK hK=>?_) (vp rfl (λK hK=>?_) AllReadyH.nil)
 ·try simp only[List.getElem_toArray,List.getElem_cons_succ,List.getElem_cons_zero]
  rw[aq (by rfl)];refine G7 _ (.tmp 22) (.tmp 22) 136 rfl 216 i0 (.agg #[ab 0,.bool false,.int .u32 0,.int .u32 0]) Tryz.underlying136 hi hz0 nN rfl rfl (by rw[hz2];omega) (by omega) ?_;rw[hz1];refine hK.out _ _ ?_ λhH=>?_
  ·exact⟨A2 _ hH.1,A2 _ hH.2⟩
  clear hK K
  try simp only[Act.put,uz,xd,uu]
  refine tB 5 hH ?_;refine tL ?_;refine tS 6 λK hK=>?_
  refine tM ?_;go_simp;refine hK.out _ _ ?_ λhH=>?_
  ·exact⟨A2 _ hH.1,A2 _ hH.2⟩
  clear hK K;refine tB 7 hH ?_;refine tL ?_;refine bk yg ?_ _;clear hH;show wpList _ _ _ _ _ _
  go_wp2_with fail
  have K4:y8 (W2.alloc (.cells (madeCells #[ab 0,.bool false,.int .u32 0,.int .u32 0] (nN*4)) 216)) W2.heap.size nN (GN nN 0):=gJ W2 nN zU;have X4:zK ((W2.alloc (.cells (madeCells #[ab 0,.bool false,.int .u32 0,.int .u32 0] (nN*4)) 216)).alloc (.cells #[.slice yu N.nT yl,ae gN nN xY,ae W2.heap.size nN nN] 138)).drew w1.heap.size (W2.heap.size+1) W2.heap.size N yL pg yu yl gN xY (GN N.nN 0):=by
   have e:=λj=>BF (W2.alloc (.cells (madeCells #[ab 0,.bool false,.int .u32 0,.int .u32 0] (nN*4)) 216)) #[.slice yu N.nT yl,ae gN nN xY,ae W2.heap.size nN nN] 138 j
   rw[bg,HN.out]at e;rw[HN.out]at K4 ⊢;exact {gr:=HP.out.below (Af (zl (zl Ak.out))),n0:=Ak.out.size,ne:=by omega,lf:=by show _< (World.alloc _ _).heap.size;rw[bg,bg];omega,f0:=e 0,f1:=e 1,f2:=e 2,kn:=K4.keeps (((A1.refl _ []).alloc _).drew) (by simp)}
  have zV:Hid (Below w.heap.size w ((W2.alloc (.cells (madeCells #[ab 0,.bool false,.int .u32 0,.int .u32 0] (nN*4)) 216)).alloc (.cells #[.slice yu N.nT yl,ae gN nN xY,ae W2.heap.size nN nN] 138)).drew):=hid (Af (zl (zl Jj.out)));have Ge:Hid (Below w1.heap.size w1 ((W2.alloc (.cells (madeCells #[ab 0,.bool false,.int .u32 0,.int .u32 0] (nN*4)) 216)).alloc (.cells #[.slice yu N.nT yl,ae gN nN xY,ae W2.heap.size nN nN] 138)).drew):=hid (Af (zl (zl Ak.out)));have Z4:Hid (((W2.alloc (.cells (madeCells #[ab 0,.bool false,.int .u32 0,.int .u32 0] (nN*4)) 216)).alloc (.cells #[.slice yu N.nT yl,ae gN nN xY,ae W2.heap.size nN nN] 138)).drew.heap[w.heap.size]?=some (.cells #[.slice none 0 0,.slice none 0 0,.slice none 0 0] 138 (0,0))):=hid (((Af (zl (zl (ah W2.heap.size W2)))).block w.heap.size (ak Z2.out)).trans Z2.out);clear K4;refine(Q8 _ _ _ _ N yL pg yu yl gN xY X4).mono ?_
  rintro e w5 ⟨rfl,zj,k1,hi1,hs1,hv1⟩;have X5:=X4.keeps zj hv1;have B5:Below w.heap.size w w5:=zV.out.trans (zj.below zV.out.size (λq hq=>by have:=mS.1 hq;omega));have C5:Below w1.heap.size w1 w5:=Ge.out.trans (zj.below Ge.out.size (λq hq=>by have:=mS.1 hq;omega));have Z5:=(zj.block w.heap.size (ak Z4.out) yM).trans Z4.out;have Ek:=hid (And.intro X5 (And.intro B5 (And.intro Z5 (And.intro hi1 (And.intro hs1 C5)))));have CR:=ND _ _ _ _ N yL pg yu yl gN xY k1 X5 (cI hi1);have Wq:=hid CR;clear CR X5 B5 Z5 C5 hi1 hs1 hv1 zj X4 zV Z4 Ge
  go_wp2_with fail
  refine Wq.out.mono ?_;rintro e w6 ⟨rfl,Bc,k2,hi2,hs2,hv2⟩;have X6:=Ek.out.1.keeps Bc hv2;have B6:Below w.heap.size w w6:=Ek.out.2.1.trans (Bc.below Ek.out.2.1.size (λq hq=>by have:=mS.1 hq;omega));have C6:Below w1.heap.size w1 w6:=Ek.out.2.2.2.2.2.trans (Bc.below Ek.out.2.2.2.2.2.size (λq hq=>by have:=mS.1 hq;omega));have Z6:=(Bc.block w.heap.size (ak Ek.out.2.2.1) yM).trans Ek.out.2.2.1;have Np:Hid (SA N k1 k2):=hid ⟨Ek.out.2.2.2.1,Ek.out.2.2.2.2.1,hi2,hs2⟩;have CF:=YF _ _ _ _ N yL pg yu yl gN xY k2 X6;obtain⟨nm,er,Wr⟩:∃nm er,FI pg k2=(nm,er):=⟨_,_,rfl⟩;rw[Wr]at CF;have Di:=hid (And.intro X6 (And.intro B6 (And.intro Z6 C6)));have HPE:=hid Wr;have Gn:=hid CF;clear X6 B6 Z6 C6 hi2 hs2 hv2 Bc Wr CF Wq Ek
  by_cases her:er=0
  ·subst her
   go_wp2_with fail
   refine Gn.out.mono ?_;rintro e w7 ⟨rfl,Cm⟩;have X7:=Di.out.1.below Cm;have B7:Below w.heap.size w w7:=Di.out.2.1.trans (Cm.mono Di.out.2.1.size);have C7:Below w1.heap.size w1 w7:=Di.out.2.2.2.trans (Cm.mono Di.out.2.2.2.size);have Z7:=(Cm.block w.heap.size (ak Di.out.2.2.1)).trans Di.out.2.2.1;have CH:=QC _ _ _ _ N yL pg yu yl gN xY k2 X7 (λn=>by rw[Np.out.i2.fh,ZV Np.out.i1]);have Gq:=hid (And.intro X7 (And.intro B7 (And.intro Z7 C7)));have HCH:=hid CH;clear X7 B7 Z7 C7 CH Cm Di Gn
   go_wp2_with fail
   refine HCH.out.mono ?_;rintro e w8 ⟨rfl,Ff,k3,Cs,hs3,hv3⟩;have X8:=Gq.out.1.keeps Ff hv3;have B8:Below w.heap.size w w8:=Gq.out.2.1.trans (Ff.below Gq.out.2.1.size (λq hq=>by have:=mS.1 hq;omega));have C8:Below w1.heap.size w1 w8:=Gq.out.2.2.2.trans (Ff.below Gq.out.2.2.2.size (λq hq=>by have:=mS.1 hq;omega));have Z8:=(Ff.block w.heap.size (ak Gq.out.2.2.1) yM).trans Gq.out.2.2.1;have CW:=OD _ _ _ _ N yL pg yu yl gN xY k3 X8 Cs.lt (λn=>by rw[Cs.fo,Np.out.i2.fo,ZI Np.out.i1]);have Gp:=hid (And.intro X8 (And.intro B8 (And.intro Z8 (And.intro Cs (And.intro hs3 C8)))));have Jk:=hid CW;clear X8 B8 Z8 C8 CW Cs hs3 hv3 Ff Gq HCH
   go_wp2_with fail
   refine Jk.out.mono ?_;rintro e w9 ⟨rfl,Cu,k4,hi4,Ea,hv4⟩;have X9:=Gp.out.1.keeps Cu hv4;have B9:Below w.heap.size w w9:=Gp.out.2.1.trans (Cu.below Gp.out.2.1.size (λq hq=>by have:=mS.1 hq;omega));have C9:Below w1.heap.size w1 w9:=Gp.out.2.2.2.2.2.trans (Cu.below Gp.out.2.2.2.2.2.size (λq hq=>by have:=mS.1 hq;omega));have Z9:=(Cu.block w.heap.size (ak Gp.out.2.2.1) yM).trans Gp.out.2.2.1;have q0:=X9.f0;have q1:=X9.f1;have q2:=X9.f2;have r0:w9.cell? (af w.heap.size 0)=some (.slice none 0 0):=A0 Z9;have r1:w9.cell? (af w.heap.size 1)=some (.slice none 0 0):=A0 Z9;have r2:w9.cell? (af w.heap.size 2)=some (.slice none 0 0):=A0 Z9;have t0:w9.frozen? (af w.heap.size 0)=false:=A3 Z9;have t1:w9.frozen? (af w.heap.size 1)=false:=A3 Z9;have t2:w9.frozen? (af w.heap.size 2)=false:=A3 Z9;have Nq:=hid (And.intro X9 (And.intro B9 (And.intro hi4 (And.intro Ea (And.intro Z9 C9)))))
   clear X9 B9 Z9 C9 hi4 Ea hv4 Cu Jk
   go_wp2_with fail
   have hrow:=A6 (j:=2) (A6 (j:=1) (A6 (j:=0) Nq.out.2.2.2.2.1 (.slice yu N.nT yl)) (ae gN N.nN xY)) (ae W2.heap.size N.nN N.nN);have Rw:A1 w9 (((w9.setCell (af w.heap.size 0) (.slice yu N.nT yl)).setCell (af w.heap.size 1) (ae gN N.nN xY)).setCell (af w.heap.size 2) (ae W2.heap.size N.nN N.nN)) [w.heap.size]:=(((A1.refl w9 [w.heap.size]).setCell (by simp) _).setCell (by simp) _).setCell (by simp) _;exact afp
  exact afo
 ·try simp only[List.getElem_toArray,List.getElem_cons_succ,List.getElem_cons_zero]
  go_simp;refine hK.out _ _ ?_ λhH=>?_
  ·exact⟨A2 _ hH.1,A2 _ hH.2⟩
  clear hK K
  try simp only[Act.put,uz,xd,uu]
  refine tS 4 λK hK=>?_
  refine tM ?_;rw[aq (by rfl)];refine G7 _ (.tmp 22) (.tmp 22) 136 rfl 216 i0 (.agg #[ab 0,.bool false,.int .u32 0,.int .u32 0]) Tryz.underlying136 hi hz0 nN rfl rfl (by rw[hz2];omega) (by omega) ?_;rw[hz1];refine hK.out _ _ ?_ λhH=>?_
  ·exact⟨A2 _ hH.1,A2 _ hH.2⟩
  clear hK K;refine tL ?_;refine tB 5 hH ?_;refine tB 7 hH ?_;refine tL ?_;refine bk yg ?_ _;clear hH;show wpList _ _ _ _ _ _
  go_wp2_with fail
  have K4:y8 ((W2.alloc (.cells #[.slice yu N.nT yl,ae gN nN xY,ae (W2.heap.size+1) nN nN] 138)).alloc (.cells (madeCells #[ab 0,.bool false,.int .u32 0,.int .u32 0] (nN*4)) 216)) (W2.heap.size+1) nN (GN nN 0):=by
   have h1:=gJ (W2.alloc (.cells #[.slice yu N.nT yl,ae gN nN xY,ae (W2.heap.size+1) nN nN] 138)) nN zU;rw[bg]at h1;exact h1
  have X4:zK ((W2.alloc (.cells #[.slice yu N.nT yl,ae gN nN xY,ae (W2.heap.size+1) nN nN] 138)).alloc (.cells (madeCells #[ab 0,.bool false,.int .u32 0,.int .u32 0] (nN*4)) 216)).drew w1.heap.size W2.heap.size (W2.heap.size+1) N yL pg yu yl gN xY (GN N.nN 0):=by
   have e:=λj=>BF W2 #[.slice yu N.nT yl,ae gN nN xY,ae (W2.heap.size+1) nN nN] 138 j
   rw[HN.out]at K4 e ⊢;exact {gr:=HP.out.below (Af (zl (zl Ak.out))),n0:=by have:=Ak.out.size;omega,ne:=by omega,lf:=by show _< (World.alloc _ _).heap.size;rw[bg,bg];omega,f0:=A2 _ (e 0),f1:=A2 _ (e 1),f2:=A2 _ (e 2),kn:=K4.keeps ((A1.refl _ []).drew) (by simp)}
  have zV:Hid (Below w.heap.size w ((W2.alloc (.cells #[.slice yu N.nT yl,ae gN nN xY,ae (W2.heap.size+1) nN nN] 138)).alloc (.cells (madeCells #[ab 0,.bool false,.int .u32 0,.int .u32 0] (nN*4)) 216)).drew):=hid (Af (zl (zl Jj.out)));have Ge:Hid (Below w1.heap.size w1 ((W2.alloc (.cells #[.slice yu N.nT yl,ae gN nN xY,ae (W2.heap.size+1) nN nN] 138)).alloc (.cells (madeCells #[ab 0,.bool false,.int .u32 0,.int .u32 0] (nN*4)) 216)).drew):=hid (Af (zl (zl Ak.out)));have Z4:Hid (((W2.alloc (.cells #[.slice yu N.nT yl,ae gN nN xY,ae (W2.heap.size+1) nN nN] 138)).alloc (.cells (madeCells #[ab 0,.bool false,.int .u32 0,.int .u32 0] (nN*4)) 216)).drew.heap[w.heap.size]?=some (.cells #[.slice none 0 0,.slice none 0 0,.slice none 0 0] 138 (0,0))):=hid (((Af (zl (zl (ah W2.heap.size W2)))).block w.heap.size (ak Z2.out)).trans Z2.out);clear K4;refine(Q8 _ _ _ _ N yL pg yu yl gN xY X4).mono ?_
  rintro e w5 ⟨rfl,zj,k1,hi1,hs1,hv1⟩;have X5:=X4.keeps zj hv1;have B5:Below w.heap.size w w5:=zV.out.trans (zj.below zV.out.size (λq hq=>by have:=mS.1 hq;omega));have C5:Below w1.heap.size w1 w5:=Ge.out.trans (zj.below Ge.out.size (λq hq=>by have:=mS.1 hq;omega));have Z5:=(zj.block w.heap.size (ak Z4.out) yM).trans Z4.out;have Ek:=hid (And.intro X5 (And.intro B5 (And.intro Z5 (And.intro hi1 (And.intro hs1 C5)))));have CR:=ND _ _ _ _ N yL pg yu yl gN xY k1 X5 (cI hi1);have Wq:=hid CR;clear CR X5 B5 Z5 C5 hi1 hs1 hv1 zj X4 zV Z4 Ge
  go_wp2_with fail
  refine Wq.out.mono ?_;rintro e w6 ⟨rfl,Bc,k2,hi2,hs2,hv2⟩;have X6:=Ek.out.1.keeps Bc hv2;have B6:Below w.heap.size w w6:=Ek.out.2.1.trans (Bc.below Ek.out.2.1.size (λq hq=>by have:=mS.1 hq;omega));have C6:Below w1.heap.size w1 w6:=Ek.out.2.2.2.2.2.trans (Bc.below Ek.out.2.2.2.2.2.size (λq hq=>by have:=mS.1 hq;omega));have Z6:=(Bc.block w.heap.size (ak Ek.out.2.2.1) yM).trans Ek.out.2.2.1;have Np:Hid (SA N k1 k2):=hid ⟨Ek.out.2.2.2.1,Ek.out.2.2.2.2.1,hi2,hs2⟩;have CF:=YF _ _ _ _ N yL pg yu yl gN xY k2 X6;obtain⟨nm,er,Wr⟩:∃nm er,FI pg k2=(nm,er):=⟨_,_,rfl⟩;rw[Wr]at CF;have Di:=hid (And.intro X6 (And.intro B6 (And.intro Z6 C6)));have HPE:=hid Wr;have Gn:=hid CF;clear X6 B6 Z6 C6 hi2 hs2 hv2 Bc Wr CF Wq Ek
  by_cases her:er=0
  ·subst her
   go_wp2_with fail
   refine Gn.out.mono ?_;rintro e w7 ⟨rfl,Cm⟩;have X7:=Di.out.1.below Cm;have B7:Below w.heap.size w w7:=Di.out.2.1.trans (Cm.mono Di.out.2.1.size);have C7:Below w1.heap.size w1 w7:=Di.out.2.2.2.trans (Cm.mono Di.out.2.2.2.size);have Z7:=(Cm.block w.heap.size (ak Di.out.2.2.1)).trans Di.out.2.2.1;have CH:=QC _ _ _ _ N yL pg yu yl gN xY k2 X7 (λn=>by rw[Np.out.i2.fh,ZV Np.out.i1]);have Gq:=hid (And.intro X7 (And.intro B7 (And.intro Z7 C7)));have HCH:=hid CH;clear X7 B7 Z7 C7 CH Cm Di Gn
   go_wp2_with fail
   refine HCH.out.mono ?_;rintro e w8 ⟨rfl,Ff,k3,Cs,hs3,hv3⟩;have X8:=Gq.out.1.keeps Ff hv3;have B8:Below w.heap.size w w8:=Gq.out.2.1.trans (Ff.below Gq.out.2.1.size (λq hq=>by have:=mS.1 hq;omega));have C8:Below w1.heap.size w1 w8:=Gq.out.2.2.2.trans (Ff.below Gq.out.2.2.2.size (λq hq=>by have:=mS.1 hq;omega));have Z8:=(Ff.block w.heap.size (ak Gq.out.2.2.1) yM).trans Gq.out.2.2.1;have CW:=OD _ _ _ _ N yL pg yu yl gN xY k3 X8 Cs.lt (λn=>by rw[Cs.fo,Np.out.i2.fo,ZI Np.out.i1]);have Gp:=hid (And.intro X8 (And.intro B8 (And.intro Z8 (And.intro Cs (And.intro hs3 C8)))));have Jk:=hid CW;clear X8 B8 Z8 C8 CW Cs hs3 hv3 Ff Gq HCH
   go_wp2_with fail
   refine Jk.out.mono ?_;rintro e w9 ⟨rfl,Cu,k4,hi4,Ea,hv4⟩;have X9:=Gp.out.1.keeps Cu hv4;have B9:Below w.heap.size w w9:=Gp.out.2.1.trans (Cu.below Gp.out.2.1.size (λq hq=>by have:=mS.1 hq;omega));have C9:Below w1.heap.size w1 w9:=Gp.out.2.2.2.2.2.trans (Cu.below Gp.out.2.2.2.2.2.size (λq hq=>by have:=mS.1 hq;omega));have Z9:=(Cu.block w.heap.size (ak Gp.out.2.2.1) yM).trans Gp.out.2.2.1;have q0:=X9.f0;have q1:=X9.f1;have q2:=X9.f2;have r0:w9.cell? (af w.heap.size 0)=some (.slice none 0 0):=A0 Z9;have r1:w9.cell? (af w.heap.size 1)=some (.slice none 0 0):=A0 Z9;have r2:w9.cell? (af w.heap.size 2)=some (.slice none 0 0):=A0 Z9;have t0:w9.frozen? (af w.heap.size 0)=false:=A3 Z9;have t1:w9.frozen? (af w.heap.size 1)=false:=A3 Z9;have t2:w9.frozen? (af w.heap.size 2)=false:=A3 Z9;have Nq:=hid (And.intro X9 (And.intro B9 (And.intro hi4 (And.intro Ea (And.intro Z9 C9)))))
   clear X9 B9 Z9 C9 hi4 Ea hv4 Cu Jk
   go_wp2_with fail
   have hrow:=A6 (j:=2) (A6 (j:=1) (A6 (j:=0) Nq.out.2.2.2.2.1 (.slice yu N.nT yl)) (ae gN N.nN xY)) (ae (W2.heap.size+1) N.nN N.nN);have Rw:A1 w9 (((w9.setCell (af w.heap.size 0) (.slice yu N.nT yl)).setCell (af w.heap.size 1) (ae gN N.nN xY)).setCell (af w.heap.size 2) (ae (W2.heap.size+1) N.nN N.nN)) [w.heap.size]:=(((A1.refl w9 [w.heap.size]).setCell (by simp) _).setCell (by simp) _).setCell (by simp) _;exact afp
  exact afo
theorem NC {N:NG}{E:Nat->Bool}{t:Nat} (ht:N.nT<=t):∀ps:List Pt,B3 N ps->DQ E (λ_=>false) t ps=false
 | [],_=>rfl
 | .tok u::ps,h=>by
  have:=h.2 u (eo ..);simp only[DQ];simp;omega
 | .yB n::ps,h=>by
  simp only[DQ,NC ht ps h.tail];simp
theorem Q0 {x t:Nat} (h:t∈BA x):x.testBit t=true:=by
 unfold BA at h;exact(mo.1 h).2
theorem kL  (hN:N.Ok) {k0:List Fa} (h:IA N k0 k) (n t:Nat) (ht:N.nT<=t):(AL k n).testBit t=false:=by
 cases hb:(AL k n).testBit t with
 |false=>rfl
 |true=>
  have h1:=h.sound t (λ_=>false) (λr hr hb=>by rw[NC ht r.2 (hN.ps hr)]at hb;cases hb) n hb;cases h1
theorem dO  (hN:N.Ok) {k0:List Fa} (hf:∀n t,N.nT<=t->(AL k0 n).testBit t=false) (h:FD N k0 k) (n t:Nat) (ht:N.nT<t):(B1 k n).testBit t=false:=by
 cases hb:(B1 k n).testBit t with
 |false=>rfl
 |true=>
  have h1:=h.sound t (λ_=>false) ⟨λe=>by omega,λr hr pre m post e hq=>by
   have hp:B3 N post:=⟨λq hq=>hN.pn r hr q aeX,λq hq=>hN.pt r hr q aeX⟩;have hz:(λn=>(AL k0 n).testBit t)=λ_=>false:=by funext n;exact hf n t (by omega)
   rw[hz,NC (by omega) post hp]at hq;simp at hq⟩ n hb
  cases h1
end Go.Proofs.YtjjggdcnpndgjaaGreatDoor
