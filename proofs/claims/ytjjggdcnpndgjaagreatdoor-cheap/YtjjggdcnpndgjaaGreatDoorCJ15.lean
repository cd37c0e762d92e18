import Derived.Test.YtjjggdcnpndgjaaGreatDoorCJ14
set_option linter.unusedSimpArgs false
set_option maxHeartbeats 4000000
set_option maxRecDepth 100000
namespace Go.Proofs.YtjjggdcnpndgjaaGreatDoor
abbrev yw:=@Go.run_loadVar_row
open Go.RowKit Go.Shelf
variable {N:NG}{k:List Fa}
structure SO (N:NG) (k1 k2:List Fa):Prop where
 i1:Bzq N k1
 s1:∀r∈N.rules,EP N k1 r=k1
 i2:KH N k1 k2
 s2:∀r∈N.rules,GR k2 r=k2
def wS (N:NG) (zy:List ByteArray) (pg:List Nm) (w:World) (e:Ending) (w':World):Prop:=
 Below w.heap.size w w'/\∃k1 k2,SO N k1 k2/\
  (((Bzx pg k2).2≠0/\e=.returned (.tuple #[.agg #[.slice none 0 0,.slice none 0 0,.slice none 0 0],.string (Bzx pg k2).1,ab (Bzx pg k2).2]))\/
   ((Bzx pg k2).2=0/\∃k3 k4 n₀ kb yZ yT gN yQ,IF N k2 k3/\(∀r∈N.rules,EM k3 r=k3)/\FM N k3 k4/\(∀r∈N.rules,EZ k4 r=k4)/\e=.returned (.tuple #[.agg #[.slice yZ N.nT yT,ae gN N.nN yQ,ae kb N.nN N.nN],.string ByteArray.empty,ab 0])/\n₀<=kb/\Cz w' n₀ N zy pg yZ yT gN yQ/\zY w' kb N.nN k4/\w.heap.size<=n₀))
theorem gA (w:World) (n:Nat) (hn:n<=20):zY (w.alloc (.cells (madeCells #[ab 0,.bool false,.int .u32 0,.int .u32 0] (n*4)) 216)) w.heap.size n (I2 n 0):=by
 refine⟨KU _ _,?_⟩;have h1:=LM w (madeCells #[ab 0,.bool false,.int .u32 0,.int .u32 0] (n*4)) n 4 216 w.heap.size (zn _) Bg (vh _ _);have h2:=NZ 4 (by omega) (λa:Fa=>[ab a.least,.bool a.reached,.int .u32 a.first,.int .u32 a.follow]) (λ_=>rfl) ⟨0,false,0,0⟩ n;have h3:I2 n 0=List.replicate n ⟨0,false,0,0⟩:=by
  apply oo;intro i
  by_cases hi:i<n
  ·rw[NK hi,nj,ay hi];rfl
  ·rw[eo (by rw[KU];omega),eo zG]
 unfold DX;rw[h3,<-h2];exact h1
theorem GK {P:Program} (w:World) {o:Oper}{a:Act}{K:Act->World->Prop}{Q:Exit->Act->World->Prop}
  (l c:Operand) (t:TypeId) (hop:o.op=Op.makeSlice t l c)
  (e:TypeId) (i:TypeInfo) (z:Value) (h1:P.underlying t=some (.slice e)) (h2:P.info? e=some i) (h3:i.zero=some z)
  (n:Nat) (hl:a.eval l=ab (n:Int)) (hc:a.eval c=ab (n:Int)) (b2:(i.bytes:Int)*(n:Int)<=281474976710656) (b3:(n:Int)<=9223372036854775807)
  (hK:K (a.put o.dst (ae w.heap.size n n)) (w.alloc (.cells (madeCells z.cells (n*i.size)) e))):
  Oper.wp P o a w K Q:=by
 have hrun:=run_make (P:=P) w t e i z h1 h2 h3 .i64 .i64 n n (by omega) (Int.le_refl _) b2 b3;simp only[ug]at hrun;unfold Oper.wp;simp[execOp,hop,hl,hc,hrun,Result.andThen];exact hK
theorem KC {P:Program}{fn:Func}{p t u:Tmp}{ty:TypeId} (h:fn.results= #[.cell p ty,.tmp t,.tmp u]) (tmps:Array Value) (w:World) (g:Nat) (t':TypeId) (cs:Array Value) (fr:Nat × Nat) (d:TypeDesc)
  (hp:tmps.getD p undef=ac g) (hg:w.heap[g]?=some (.cells cs t' fr)) (hu:P.underlying ty=some d) (hd:(match d with | .struct _ | .array _ _=>true |_=>false)=true) (hi:(P.info? ty).map (·.size)=some cs.size):
  (results fn tmps).run P w=.ok (.tuple #[.agg cs,tmps.getD t undef,tmps.getD u undef]) w:=by
 have hp':tmps[p]?.getD undef=ac g:=by simpa using hp
 simp[results,h,hp',asAddr,yw w g t' ty cs fr d hg hu hd hi,Result.andThen]
theorem d9  (h:Bzq N k) (n:Nat):F6 k n=false:=by
 unfold F6;cases hk:k[n]? with
 |none=>rfl
 |some a=>exact(h.only a (mG hk)).1
theorem cO  (h:Bzq N k) (n:Nat):AQ k n=0:=by
 unfold AQ;cases hk:k[n]? with
 |none=>rfl
 |some a=>exact(h.only a (mG hk)).2.1
theorem cI  (h:Bzq N k) (n:Nat):BC k n=0:=by
 unfold BC;cases hk:k[n]? with
 |none=>rfl
 |some a=>exact(h.only a (mG hk)).2.2
theorem afZ {P:Prop} (h:P:=by
  ·have hne:((er:Int)==0)=false:=by simpa using her
   go_wp2_with (refine Jf.out.mono ?_;rintro e w7 ⟨rfl,Eb⟩;have Z7:=(Eb.block w.heap.size (ak Ey.out.2.2.1)).trans Ey.out.2.2.1;have r0:w7.cell? (af w.heap.size 0)=some (.slice none 0 0):=A0 Z7;have r1:w7.cell? (af w.heap.size 1)=some (.slice none 0 0):=A0 Z7;have r2:w7.cell? (af w.heap.size 2)=some (.slice none 0 0):=A0 Z7;have t0:w7.frozen? (af w.heap.size 0)=false:=A7 Z7;have t1:w7.frozen? (af w.heap.size 1)=false:=A7 Z7;have t2:w7.frozen? (af w.heap.size 2)=false:=A7 Z7;have Ml:Hid (Below w.heap.size w w7):=hid (Ey.out.2.1.trans (Eb.mono Ey.out.2.1.size));have HZ7:=hid Z7;clear Eb Z7 Jf)
   have hrow:=AA (j:=2) (AA (j:=1) (AA (j:=0) HZ7.out (.slice none 0 0)) (.slice none 0 0)) (.slice none 0 0);have Uj:A5 w7 (((w7.setCell (af w.heap.size 0) (.slice none 0 0)).setCell (af w.heap.size 1) (.slice none 0 0)).setCell (af w.heap.size 2) (.slice none 0 0)) [w.heap.size]:=(((A5.refl w7 [w.heap.size]).setCell (by simp) _).setCell (by simp) _).setCell (by simp) _;refine⟨rfl,_,KC (p:=2) (t:=3) (u:=4) (ty:=138) rfl _ _ w.heap.size _ _ _ _ rfl hrow Tryz.underlying138 rfl yM,?_⟩;exact⟨Ml.out.trans (Uj.below Ml.out.size (λq hq=>by have:=mS.1 hq;omega)),k1,k2,Pp.out,.inl ⟨by rw[HPE.out];exact her,by rw[HPE.out];rfl⟩⟩):P:=h
theorem af0 {P:Prop} (h:P:=by
  refine⟨rfl,_,KC (p:=2) (t:=3) (u:=4) (ty:=138) rfl _ _ w.heap.size _ _ _ _ rfl hrow Tryz.underlying138 rfl yM,?_⟩;refine⟨Pq.out.2.1.trans (Uj.below Pq.out.2.1.size (λq hq=>by have:=mS.1 hq;omega)),k1,k2,Pp.out,.inr ⟨by rw[HPE.out],k3,k4,w1.heap.size,_,yZ,yT,gN,yQ,Jg.out.2.2.2.1,Jg.out.2.2.2.2.1,Pq.out.2.2.1,Pq.out.2.2.2.1,rfl,by omega,HPR.out _ (λq Kb Wi=>?_),Pq.out.1.kn.keeps Uj zG,by omega⟩⟩;have Rq:=Pq.out.2.2.2.2.2;rw[bh]at Kb;exact(Uj.block q (by have:=Rq.size;omega) zG).trans (Rq.block q Wi)):P:=h
theorem qK (s:ByteArray) (w:World) (N:NG) (zy:List ByteArray) (pg:List Nm)
  (hS:∀W,Below w.heap.size w W->Calls Tryz.prog 105 #[.string s] W λe w'=>∃yZ yT gN yQ,e=.returned (.tuple #[.agg #[.slice yZ N.nT yT,ae gN N.nN yQ],ab 0])/\(∀W'',(∀q,W.heap.size<=q->q<w'.heap.size->W''.heap[q]?=w'.heap[q]?)->Cz W'' w'.heap.size N zy pg yZ yT gN yQ)/\Below W.heap.size W w'):
  Calls Tryz.prog 68 #[.string s] w λe w'=>wS N zy pg w e w':=by
 obtain⟨i0,hi,hz0,hz1,hz2⟩:=iy Tryz.info216;have HS:=hid hS;clear hS
 go_enter Tryz.func68,Tryz.ntmps68
 go_wp2_with (go_at_call 105;refine(HS.out _ (Aj (ah _ _))).mono ?_;rintro e w1 ⟨yZ,yT,gN,yQ,rfl,hPR,hb1⟩;have hP:=hPR w1 (λ_ _ _=>rfl);have HPR:=hid hPR;clear hPR)
 have Bi:=hP.Dm;have Wj:=hP.ok.pos;have HP:=hid hP;obtain⟨nN,hn1⟩:=qF (N.nN);rw[<-hn1]at Bi Wj ⊢;have HN:Hid (nN=N.nN):=hid hn1;have zL:=hid hb1;have aaO:Hid (Below w.heap.size w w1):=hid ((Aj (ah _ _)).trans (zL.out.mono (by simp)));have Z1:w1.heap[w.heap.size]?=some (.cells #[.slice none 0 0,.slice none 0 0,.slice none 0 0] 138 (0,0)):=(zL.out.block w.heap.size (by simp)).trans (bg w _);have g0:=BK w1 #[.slice yZ N.nT yT,ae gN nN yQ] 135 0;have g1:=BK w1 #[.slice yZ N.nT yT,ae gN nN yQ] 135 1;have hsb:w1.heap.size< (w1.alloc (.cells #[.slice yZ N.nT yT,ae gN nN yQ] 135)).heap.size:=by rw[bh];omega
 have Ci:Hid (Below w1.heap.size w1 (w1.alloc (.cells #[.slice yZ N.nT yT,ae gN nN yQ] 135))):=hid (Aj (ah _ _));obtain⟨W2,hW2⟩:=qE (w1.alloc (.cells #[.slice yZ N.nT yT,ae gN nN yQ] 135));rw[hW2]at g0 g1 hsb Ci ⊢;have Lh:Hid (Below w.heap.size w W2):=hid (aaO.out.trans (Ci.out.mono aaO.out.size));have Z2:Hid (W2.heap[w.heap.size]?=some (.cells #[.slice none 0 0,.slice none 0 0,.slice none 0 0] 138 (0,0))):=hid ((Ci.out.block w.heap.size (ak Z1)).trans Z1);have hwz:=ak Z2.out;have aiA:w1.heap.size<=W2.heap.size:=Ci.out.size;have alp:w.heap.size<w1.heap.size:=ak Z1;clear hW2 hP hb1 hn1 Z1;have g0:W2.cell? (af w1.heap.size 0)=some (.slice yZ N.nT yT):=g0;have g1:W2.cell? (af w1.heap.size 1)=some (ae gN nN yQ):=g1;refine AH (λw'=>w'.cell? (af w1.heap.size 0)=some (.slice yZ N.nT yT)/\w'.cell? (af w1.heap.size 1)=some (ae gN nN yQ)) yM yM ⟨g0,g1⟩ (λhH=>?_)
 simp only[AG,BP,AR];refine tB 0 hH ?_;refine tB 1 hH ?_;refine tB 2 hH ?_;refine tB 3 hH ?_;refine tL ?_;refine wpAnyH_ready (rs:=[4,6]) yM (by simp) ?_;refine xd rfl (λK hK=>?_) (xd rfl (λK hK=>?_) AllReadyH.nil)
 ·try simp only[List.getElem_toArray,List.getElem_cons_succ,List.getElem_cons_zero]
  rw[ay (by rfl)];refine GK _ (.tmp 22) (.tmp 22) 136 rfl 216 i0 (.agg #[ab 0,.bool false,.int .u32 0,.int .u32 0]) Tryz.underlying136 hi hz0 nN rfl rfl (by rw[hz2];omega) (by omega) ?_;rw[hz1];refine hK.out _ _ ?_ λhH=>?_
  ·exact⟨A6 _ hH.1,A6 _ hH.2⟩
  clear hK K
  try simp only[Act.put,vv,xy,vk]
  refine tB 5 hH ?_;refine tL ?_;refine tS 6 λK hK=>?_
  refine tM ?_;go_simp;refine hK.out _ _ ?_ λhH=>?_
  ·exact⟨A6 _ hH.1,A6 _ hH.2⟩
  clear hK K;refine tB 7 hH ?_;refine tL ?_;refine bq yM ?_ _;clear hH;show wpList _ _ _ _ _ _
  go_wp2_with fail
  have K4:zY (W2.alloc (.cells (madeCells #[ab 0,.bool false,.int .u32 0,.int .u32 0] (nN*4)) 216)) W2.heap.size nN (I2 nN 0):=gA W2 nN Bi;have X4:Aw ((W2.alloc (.cells (madeCells #[ab 0,.bool false,.int .u32 0,.int .u32 0] (nN*4)) 216)).alloc (.cells #[.slice yZ N.nT yT,ae gN nN yQ,ae W2.heap.size nN nN] 138)).drew w1.heap.size (W2.heap.size+1) W2.heap.size N zy pg yZ yT gN yQ (I2 N.nN 0):=by
   have e:=λj=>BK (W2.alloc (.cells (madeCells #[ab 0,.bool false,.int .u32 0,.int .u32 0] (nN*4)) 216)) #[.slice yZ N.nT yT,ae gN nN yQ,ae W2.heap.size nN nN] 138 j
   rw[bh,HN.out]at e;rw[HN.out]at K4 ⊢;exact {gr:=HP.out.below (Cb (Aj (Aj Ci.out))),n0:=Ci.out.size,ne:=by omega,lf:=by show _< (World.alloc _ _).heap.size;rw[bh,bh];omega,f0:=e 0,f1:=e 1,f2:=e 2,kn:=K4.keeps (((A5.refl _ []).alloc _).drew) (by simp)}
  have Bk:Hid (Below w.heap.size w ((W2.alloc (.cells (madeCells #[ab 0,.bool false,.int .u32 0,.int .u32 0] (nN*4)) 216)).alloc (.cells #[.slice yZ N.nT yT,ae gN nN yQ,ae W2.heap.size nN nN] 138)).drew):=hid (Cb (Aj (Aj Lh.out)));have Iy:Hid (Below w1.heap.size w1 ((W2.alloc (.cells (madeCells #[ab 0,.bool false,.int .u32 0,.int .u32 0] (nN*4)) 216)).alloc (.cells #[.slice yZ N.nT yT,ae gN nN yQ,ae W2.heap.size nN nN] 138)).drew):=hid (Cb (Aj (Aj Ci.out)));have Z4:Hid (((W2.alloc (.cells (madeCells #[ab 0,.bool false,.int .u32 0,.int .u32 0] (nN*4)) 216)).alloc (.cells #[.slice yZ N.nT yT,ae gN nN yQ,ae W2.heap.size nN nN] 138)).drew.heap[w.heap.size]?=some (.cells #[.slice none 0 0,.slice none 0 0,.slice none 0 0] 138 (0,0))):=hid (((Cb (Aj (Aj (ah W2.heap.size W2)))).block w.heap.size (ak Z2.out)).trans Z2.out);clear K4;refine(QP _ _ _ _ N zy pg yZ yT gN yQ X4).mono ?_
  rintro e w5 ⟨rfl,Ag,k1,hi1,hs1,hv1⟩;have X5:=X4.keeps Ag hv1;have B5:Below w.heap.size w w5:=Bk.out.trans (Ag.below Bk.out.size (λq hq=>by have:=mS.1 hq;omega));have C5:Below w1.heap.size w1 w5:=Iy.out.trans (Ag.below Iy.out.size (λq hq=>by have:=mS.1 hq;omega));have Z5:=(Ag.block w.heap.size (ak Z4.out) zG).trans Z4.out;have Gg:=hid (And.intro X5 (And.intro B5 (And.intro Z5 (And.intro hi1 (And.intro hs1 C5)))));have CR:=NU _ _ _ _ N zy pg yZ yT gN yQ k1 X5 (d9 hi1);have Zl:=hid CR;clear CR X5 B5 Z5 C5 hi1 hs1 hv1 Ag X4 Bk Z4 Iy
  go_wp2_with fail
  refine Zl.out.mono ?_;rintro e w6 ⟨rfl,Cp,k2,hi2,hs2,hv2⟩;have X6:=Gg.out.1.keeps Cp hv2;have B6:Below w.heap.size w w6:=Gg.out.2.1.trans (Cp.below Gg.out.2.1.size (λq hq=>by have:=mS.1 hq;omega));have C6:Below w1.heap.size w1 w6:=Gg.out.2.2.2.2.2.trans (Cp.below Gg.out.2.2.2.2.2.size (λq hq=>by have:=mS.1 hq;omega));have Z6:=(Cp.block w.heap.size (ak Gg.out.2.2.1) zG).trans Gg.out.2.2.1;have Pp:Hid (SO N k1 k2):=hid ⟨Gg.out.2.2.2.1,Gg.out.2.2.2.2.1,hi2,hs2⟩;have CF:=Y8 _ _ _ _ N zy pg yZ yT gN yQ k2 X6;obtain⟨nm,er,Zm⟩:∃nm er,Bzx pg k2=(nm,er):=⟨_,_,rfl⟩;rw[Zm]at CF;have Ey:=hid (And.intro X6 (And.intro B6 (And.intro Z6 C6)));have HPE:=hid Zm;have Jf:=hid CF;clear X6 B6 Z6 C6 hi2 hs2 hv2 Cp Zm CF Zl Gg
  by_cases her:er=0
  ·subst her
   go_wp2_with fail
   refine Jf.out.mono ?_;rintro e w7 ⟨rfl,Eb⟩;have X7:=Ey.out.1.below Eb;have B7:Below w.heap.size w w7:=Ey.out.2.1.trans (Eb.mono Ey.out.2.1.size);have C7:Below w1.heap.size w1 w7:=Ey.out.2.2.2.trans (Eb.mono Ey.out.2.2.2.size);have Z7:=(Eb.block w.heap.size (ak Ey.out.2.2.1)).trans Ey.out.2.2.1;have CH:=QT _ _ _ _ N zy pg yZ yT gN yQ k2 X7 (λn=>by rw[Pp.out.i2.fh,cO Pp.out.i1]);have Jh:=hid (And.intro X7 (And.intro B7 (And.intro Z7 C7)));have HCH:=hid CH;clear X7 B7 Z7 C7 CH Eb Ey Jf
   go_wp2_with fail
   refine HCH.out.mono ?_;rintro e w8 ⟨rfl,Ho,k3,Ea,hs3,hv3⟩;have X8:=Jh.out.1.keeps Ho hv3;have B8:Below w.heap.size w w8:=Jh.out.2.1.trans (Ho.below Jh.out.2.1.size (λq hq=>by have:=mS.1 hq;omega));have C8:Below w1.heap.size w1 w8:=Jh.out.2.2.2.trans (Ho.below Jh.out.2.2.2.size (λq hq=>by have:=mS.1 hq;omega));have Z8:=(Ho.block w.heap.size (ak Jh.out.2.2.1) zG).trans Jh.out.2.2.1;have CW:=OS _ _ _ _ N zy pg yZ yT gN yQ k3 X8 Ea.lt (λn=>by rw[Ea.fo,Pp.out.i2.fo,cI Pp.out.i1]);have Jg:=hid (And.intro X8 (And.intro B8 (And.intro Z8 (And.intro Ea (And.intro hs3 C8)))));have Li:=hid CW;clear X8 B8 Z8 C8 CW Ea hs3 hv3 Ho Jh HCH
   go_wp2_with fail
   refine Li.out.mono ?_;rintro e w9 ⟨rfl,Ek,k4,hi4,Fx,hv4⟩;have X9:=Jg.out.1.keeps Ek hv4;have B9:Below w.heap.size w w9:=Jg.out.2.1.trans (Ek.below Jg.out.2.1.size (λq hq=>by have:=mS.1 hq;omega));have C9:Below w1.heap.size w1 w9:=Jg.out.2.2.2.2.2.trans (Ek.below Jg.out.2.2.2.2.2.size (λq hq=>by have:=mS.1 hq;omega));have Z9:=(Ek.block w.heap.size (ak Jg.out.2.2.1) zG).trans Jg.out.2.2.1;have q0:=X9.f0;have q1:=X9.f1;have q2:=X9.f2;have r0:w9.cell? (af w.heap.size 0)=some (.slice none 0 0):=A0 Z9;have r1:w9.cell? (af w.heap.size 1)=some (.slice none 0 0):=A0 Z9;have r2:w9.cell? (af w.heap.size 2)=some (.slice none 0 0):=A0 Z9;have t0:w9.frozen? (af w.heap.size 0)=false:=A7 Z9;have t1:w9.frozen? (af w.heap.size 1)=false:=A7 Z9;have t2:w9.frozen? (af w.heap.size 2)=false:=A7 Z9;have Pq:=hid (And.intro X9 (And.intro B9 (And.intro hi4 (And.intro Fx (And.intro Z9 C9)))))
   clear X9 B9 Z9 C9 hi4 Fx hv4 Ek Li
   go_wp2_with fail
   have hrow:=AA (j:=2) (AA (j:=1) (AA (j:=0) Pq.out.2.2.2.2.1 (.slice yZ N.nT yT)) (ae gN N.nN yQ)) (ae W2.heap.size N.nN N.nN);have Uj:A5 w9 (((w9.setCell (af w.heap.size 0) (.slice yZ N.nT yT)).setCell (af w.heap.size 1) (ae gN N.nN yQ)).setCell (af w.heap.size 2) (ae W2.heap.size N.nN N.nN)) [w.heap.size]:=(((A5.refl w9 [w.heap.size]).setCell (by simp) _).setCell (by simp) _).setCell (by simp) _;exact af0
  exact afZ
 ·try simp only[List.getElem_toArray,List.getElem_cons_succ,List.getElem_cons_zero]
  go_simp;refine hK.out _ _ ?_ λhH=>?_
  ·exact⟨A6 _ hH.1,A6 _ hH.2⟩
  clear hK K
  try simp only[Act.put,vv,xy,vk]
  refine tS 4 λK hK=>?_
  refine tM ?_;rw[ay (by rfl)];refine GK _ (.tmp 22) (.tmp 22) 136 rfl 216 i0 (.agg #[ab 0,.bool false,.int .u32 0,.int .u32 0]) Tryz.underlying136 hi hz0 nN rfl rfl (by rw[hz2];omega) (by omega) ?_;rw[hz1];refine hK.out _ _ ?_ λhH=>?_
  ·exact⟨A6 _ hH.1,A6 _ hH.2⟩
  clear hK K;refine tL ?_;refine tB 5 hH ?_;refine tB 7 hH ?_;refine tL ?_;refine bq yM ?_ _;clear hH;show wpList _ _ _ _ _ _
  go_wp2_with fail
  have K4:zY ((W2.alloc (.cells #[.slice yZ N.nT yT,ae gN nN yQ,ae (W2.heap.size+1) nN nN] 138)).alloc (.cells (madeCells #[ab 0,.bool false,.int .u32 0,.int .u32 0] (nN*4)) 216)) (W2.heap.size+1) nN (I2 nN 0):=by
   have h1:=gA (W2.alloc (.cells #[.slice yZ N.nT yT,ae gN nN yQ,ae (W2.heap.size+1) nN nN] 138)) nN Bi;rw[bh]at h1;exact h1
  have X4:Aw ((W2.alloc (.cells #[.slice yZ N.nT yT,ae gN nN yQ,ae (W2.heap.size+1) nN nN] 138)).alloc (.cells (madeCells #[ab 0,.bool false,.int .u32 0,.int .u32 0] (nN*4)) 216)).drew w1.heap.size W2.heap.size (W2.heap.size+1) N zy pg yZ yT gN yQ (I2 N.nN 0):=by
   have e:=λj=>BK W2 #[.slice yZ N.nT yT,ae gN nN yQ,ae (W2.heap.size+1) nN nN] 138 j
   rw[HN.out]at K4 e ⊢;exact {gr:=HP.out.below (Cb (Aj (Aj Ci.out))),n0:=by have:=Ci.out.size;omega,ne:=by omega,lf:=by show _< (World.alloc _ _).heap.size;rw[bh,bh];omega,f0:=A6 _ (e 0),f1:=A6 _ (e 1),f2:=A6 _ (e 2),kn:=K4.keeps ((A5.refl _ []).drew) (by simp)}
  have Bk:Hid (Below w.heap.size w ((W2.alloc (.cells #[.slice yZ N.nT yT,ae gN nN yQ,ae (W2.heap.size+1) nN nN] 138)).alloc (.cells (madeCells #[ab 0,.bool false,.int .u32 0,.int .u32 0] (nN*4)) 216)).drew):=hid (Cb (Aj (Aj Lh.out)));have Iy:Hid (Below w1.heap.size w1 ((W2.alloc (.cells #[.slice yZ N.nT yT,ae gN nN yQ,ae (W2.heap.size+1) nN nN] 138)).alloc (.cells (madeCells #[ab 0,.bool false,.int .u32 0,.int .u32 0] (nN*4)) 216)).drew):=hid (Cb (Aj (Aj Ci.out)));have Z4:Hid (((W2.alloc (.cells #[.slice yZ N.nT yT,ae gN nN yQ,ae (W2.heap.size+1) nN nN] 138)).alloc (.cells (madeCells #[ab 0,.bool false,.int .u32 0,.int .u32 0] (nN*4)) 216)).drew.heap[w.heap.size]?=some (.cells #[.slice none 0 0,.slice none 0 0,.slice none 0 0] 138 (0,0))):=hid (((Cb (Aj (Aj (ah W2.heap.size W2)))).block w.heap.size (ak Z2.out)).trans Z2.out);clear K4;refine(QP _ _ _ _ N zy pg yZ yT gN yQ X4).mono ?_
  rintro e w5 ⟨rfl,Ag,k1,hi1,hs1,hv1⟩;have X5:=X4.keeps Ag hv1;have B5:Below w.heap.size w w5:=Bk.out.trans (Ag.below Bk.out.size (λq hq=>by have:=mS.1 hq;omega));have C5:Below w1.heap.size w1 w5:=Iy.out.trans (Ag.below Iy.out.size (λq hq=>by have:=mS.1 hq;omega));have Z5:=(Ag.block w.heap.size (ak Z4.out) zG).trans Z4.out;have Gg:=hid (And.intro X5 (And.intro B5 (And.intro Z5 (And.intro hi1 (And.intro hs1 C5)))));have CR:=NU _ _ _ _ N zy pg yZ yT gN yQ k1 X5 (d9 hi1);have Zl:=hid CR;clear CR X5 B5 Z5 C5 hi1 hs1 hv1 Ag X4 Bk Z4 Iy
  go_wp2_with fail
  refine Zl.out.mono ?_;rintro e w6 ⟨rfl,Cp,k2,hi2,hs2,hv2⟩;have X6:=Gg.out.1.keeps Cp hv2;have B6:Below w.heap.size w w6:=Gg.out.2.1.trans (Cp.below Gg.out.2.1.size (λq hq=>by have:=mS.1 hq;omega));have C6:Below w1.heap.size w1 w6:=Gg.out.2.2.2.2.2.trans (Cp.below Gg.out.2.2.2.2.2.size (λq hq=>by have:=mS.1 hq;omega));have Z6:=(Cp.block w.heap.size (ak Gg.out.2.2.1) zG).trans Gg.out.2.2.1;have Pp:Hid (SO N k1 k2):=hid ⟨Gg.out.2.2.2.1,Gg.out.2.2.2.2.1,hi2,hs2⟩;have CF:=Y8 _ _ _ _ N zy pg yZ yT gN yQ k2 X6;obtain⟨nm,er,Zm⟩:∃nm er,Bzx pg k2=(nm,er):=⟨_,_,rfl⟩;rw[Zm]at CF;have Ey:=hid (And.intro X6 (And.intro B6 (And.intro Z6 C6)));have HPE:=hid Zm;have Jf:=hid CF;clear X6 B6 Z6 C6 hi2 hs2 hv2 Cp Zm CF Zl Gg
  by_cases her:er=0
  ·subst her
   go_wp2_with fail
   refine Jf.out.mono ?_;rintro e w7 ⟨rfl,Eb⟩;have X7:=Ey.out.1.below Eb;have B7:Below w.heap.size w w7:=Ey.out.2.1.trans (Eb.mono Ey.out.2.1.size);have C7:Below w1.heap.size w1 w7:=Ey.out.2.2.2.trans (Eb.mono Ey.out.2.2.2.size);have Z7:=(Eb.block w.heap.size (ak Ey.out.2.2.1)).trans Ey.out.2.2.1;have CH:=QT _ _ _ _ N zy pg yZ yT gN yQ k2 X7 (λn=>by rw[Pp.out.i2.fh,cO Pp.out.i1]);have Jh:=hid (And.intro X7 (And.intro B7 (And.intro Z7 C7)));have HCH:=hid CH;clear X7 B7 Z7 C7 CH Eb Ey Jf
   go_wp2_with fail
   refine HCH.out.mono ?_;rintro e w8 ⟨rfl,Ho,k3,Ea,hs3,hv3⟩;have X8:=Jh.out.1.keeps Ho hv3;have B8:Below w.heap.size w w8:=Jh.out.2.1.trans (Ho.below Jh.out.2.1.size (λq hq=>by have:=mS.1 hq;omega));have C8:Below w1.heap.size w1 w8:=Jh.out.2.2.2.trans (Ho.below Jh.out.2.2.2.size (λq hq=>by have:=mS.1 hq;omega));have Z8:=(Ho.block w.heap.size (ak Jh.out.2.2.1) zG).trans Jh.out.2.2.1;have CW:=OS _ _ _ _ N zy pg yZ yT gN yQ k3 X8 Ea.lt (λn=>by rw[Ea.fo,Pp.out.i2.fo,cI Pp.out.i1]);have Jg:=hid (And.intro X8 (And.intro B8 (And.intro Z8 (And.intro Ea (And.intro hs3 C8)))));have Li:=hid CW;clear X8 B8 Z8 C8 CW Ea hs3 hv3 Ho Jh HCH
   go_wp2_with fail
   refine Li.out.mono ?_;rintro e w9 ⟨rfl,Ek,k4,hi4,Fx,hv4⟩;have X9:=Jg.out.1.keeps Ek hv4;have B9:Below w.heap.size w w9:=Jg.out.2.1.trans (Ek.below Jg.out.2.1.size (λq hq=>by have:=mS.1 hq;omega));have C9:Below w1.heap.size w1 w9:=Jg.out.2.2.2.2.2.trans (Ek.below Jg.out.2.2.2.2.2.size (λq hq=>by have:=mS.1 hq;omega));have Z9:=(Ek.block w.heap.size (ak Jg.out.2.2.1) zG).trans Jg.out.2.2.1;have q0:=X9.f0;have q1:=X9.f1;have q2:=X9.f2;have r0:w9.cell? (af w.heap.size 0)=some (.slice none 0 0):=A0 Z9;have r1:w9.cell? (af w.heap.size 1)=some (.slice none 0 0):=A0 Z9;have r2:w9.cell? (af w.heap.size 2)=some (.slice none 0 0):=A0 Z9;have t0:w9.frozen? (af w.heap.size 0)=false:=A7 Z9;have t1:w9.frozen? (af w.heap.size 1)=false:=A7 Z9;have t2:w9.frozen? (af w.heap.size 2)=false:=A7 Z9;have Pq:=hid (And.intro X9 (And.intro B9 (And.intro hi4 (And.intro Fx (And.intro Z9 C9)))))
   clear X9 B9 Z9 C9 hi4 Fx hv4 Ek Li
   go_wp2_with fail
   have hrow:=AA (j:=2) (AA (j:=1) (AA (j:=0) Pq.out.2.2.2.2.1 (.slice yZ N.nT yT)) (ae gN N.nN yQ)) (ae (W2.heap.size+1) N.nN N.nN);have Uj:A5 w9 (((w9.setCell (af w.heap.size 0) (.slice yZ N.nT yT)).setCell (af w.heap.size 1) (ae gN N.nN yQ)).setCell (af w.heap.size 2) (ae (W2.heap.size+1) N.nN N.nN)) [w.heap.size]:=(((A5.refl w9 [w.heap.size]).setCell (by simp) _).setCell (by simp) _).setCell (by simp) _;exact af0
  exact afZ
theorem NY {N:NG}{E:Nat->Bool}{t:Nat} (ht:N.nT<=t):∀ps:List Pt,BE N ps->E5 E (λ_=>false) t ps=false
 | [],_=>rfl
 | .tok u::ps,h=>by
  have:=h.2 u (ew ..);simp only[E5];simp;omega
 | .zi n::ps,h=>by
  simp only[E5,NY ht ps h.tail];simp
theorem PS {x t:Nat} (h:t∈BG x):x.testBit t=true:=by
 unfold BG at h;exact(ni.1 h).2
theorem kN  (hN:N.Ok) {k0:List Fa} (h:IF N k0 k) (n t:Nat) (ht:N.nT<=t):(AQ k n).testBit t=false:=by
 cases hb:(AQ k n).testBit t with
 |false=>rfl
 |true=>
  have h1:=h.sound t (λ_=>false) (λr hr hb=>by rw[NY ht r.2 (hN.ps hr)]at hb;cases hb) n hb;cases h1
theorem eQ  (hN:N.Ok) {k0:List Fa} (hf:∀n t,N.nT<=t->(AQ k0 n).testBit t=false) (h:FM N k0 k) (n t:Nat) (ht:N.nT<t):(BC k n).testBit t=false:=by
 cases hb:(BC k n).testBit t with
 |false=>rfl
 |true=>
  have h1:=h.sound t (λ_=>false) ⟨λe=>by omega,λr hr pre m post e hq=>by
   have hp:BE N post:=⟨λq hq=>hN.pn r hr q afA,λq hq=>hN.pt r hr q afA⟩;have hz:(λn=>(AQ k0 n).testBit t)=λ_=>false:=by funext n;exact hf n t (by omega)
   rw[hz,NY (by omega) post hp]at hq;simp at hq⟩ n hb
  cases h1
end Go.Proofs.YtjjggdcnpndgjaaGreatDoor
