import Derived.Test.YtjjggdcnpndgjaaGreatDoorCJ11
import Derived.Sort.LoopGhostIn
import Derived.Shelf.RegionOpen
set_option linter.unusedSimpArgs false
set_option maxHeartbeats 1000000
set_option maxRecDepth 100000
namespace Go.Proofs.YtjjggdcnpndgjaaGreatDoor
abbrev bg:=@Go.World.alloc_heap_new
abbrev ng:=@Array.getElem?_eq_some_iff
abbrev og:=@Go.World.frozen?_of_block
abbrev qo:=@Go.grownBy_putObj'
abbrev qw:=@Go.callsIn_of_wp_marks
abbrev qx:=@Nat.one_shiftLeft
abbrev rq:=@Go.Proofs.enters_of
abbrev ue:=@Go.World.putObj_heap_other
abbrev uh:=@Nat.or_lt_two_pow
abbrev uz:=@Go.run_takeDeferred
abbrev vg:=@Nat.testBit_or
abbrev xm:=@Go.wpIn_rangeFunc_ownG
abbrev xq:=@Nat.testBit_two_pow
abbrev yK:=@Go.belowK_b
abbrev yX:=@Go.wpIn_loop_ghost
abbrev yY:=@Nat.pow_lt_pow_right
open Go.RowKit Go.Shelf
variable {N:NG}{W w:World}{a:Fa}{yZ:Option Addr}{yQ yT fb gN j kb n n₀:Nat}{f:Fa->Fa}{k k0:List Fa}{pg:List Nm}{zy:List ByteArray}
section
attribute [local go_sem] Oper.semAt_some
def UT (Ds:List Nat):List Deferred:=Ds.map λD=>{target:=.collected D,args:= #[]}
theorem L9 {F:Fence}{P:Program}{fn:Func}{tmps:Array Value}{R:Ending->World->Prop} (B:Nat) (Pd:World->Prop)
  (hP:∀w' D,Pd w'->B<=D->w'.heap[D]?=some (.deferred (some []))->Pd (w'.putObj D (.deferred none)))
  (h:∀w',Pd w'->LeavesInM F n P fn tmps R [] .returning w'):∀(Ds:List Nat) (w:World),Pd w->Ds.Nodup->(∀D∈Ds,B<=D/\w.heap[D]?=some (.deferred (some [])))->LeavesInM F n P fn tmps R (UT Ds) .returning w:=by
 intro Ds
 induction Ds with
 |nil=>intro w hk _ _;exact h w hk
 |cons D Ds ih=>
  intro w hk hn hD;have hd:=hD D (ew ..);refine⟨by simp,.inl ⟨D,_,rfl,uz hd.2,?_⟩⟩;refine ih _ (hP w D hk hd.1 hd.2) (List.nodup_cons.1 hn).2 ?_;intro D' Gs;have h1:=hD D' (gj _ Gs);refine⟨h1.1,?_⟩;rw[ue (λe=>(List.nodup_cons.1 hn).1 (by rw[<-e];exact Gs))];exact h1.2
theorem KeepsFrom.Mg {B:Nat}{V V1:World}{S:List Nat} (h:A5 V V1 S) (hS:∀k∈S,k<B):KeepsFrom B V V1:=
 ⟨h.size,λk o hB hk _=>(h.block k (ng.1 hk).1 (λhm=>by have:=hS k hm;omega)).trans hk⟩
def EB (w:World) (Ds:List Nat) (W:World):Prop:=Ds.Nodup/\∀D∈Ds,w.heap.size<=D/\W.heap[D]?=some (.deferred (some []))
theorem EB.keeps {W':World}{Ds:List Nat}{S:List Nat} (h:EB w Ds W) (hk:A5 W W' S) (hS:∀k∈S,∃c e f,W.heap[k]?=some (.cells c e f)):EB w Ds W':=
 ⟨h.1,λD hD=>⟨(h.2 D hD).1,(hk.block D (ng.1 (h.2 D hD).2).1 (λhm=>by
  obtain⟨c,e,f,h1⟩:=hS D hm;rw[(h.2 D hD).2]at h1;simp at h1)).trans (h.2 D hD).2⟩⟩
theorem EB.cons {W0:World}{Ds:List Nat}{D:Nat} (h0:EB w Ds W0) (h:EB w Ds W) (hw:w.heap.size<=W0.heap.size) (hD:W0.heap.size<=D) (hd:W.heap[D]?=some (.deferred (some []))):EB w (D::Ds) W:=
 ⟨List.nodup_cons.2 ⟨λhm=>by have:=(ng.1 (h0.2 D hm).2).1;omega,h.1⟩,λD' Gs=>by
  rcases bk.1 Gs with rfl |Gs
  ·exact⟨by omega,hd⟩
  ·exact h.2 D' Gs⟩
theorem zY.kind  (h:zY w kb n k):∀b∈ [kb],∃c e f,w.heap[b]?=some (.cells c e f):=by
 intro b hb;obtain rfl:b=kb:=by simpa using hb
 obtain⟨c,h1⟩:=BQ h.2 (g:=b) rfl;exact⟨c,_,_,h1⟩
theorem zY.step {W':World}{B:Nat}{row:Option Nat} (h:zY W kb n k) (hB:kb<B) (hg:W.grownBy W' row) (hr:∀r,row=some r->B<=r/\∃o:Obj,W.heap[r]?=some o/\o.isCells=false):zY W' kb n k:=
 h.keeps ((A5.refl W row.toList).grown hg (λk e=>.inl Mv)) (λhm=>by
  cases row with
  |none=>simp at hm
  |some r=>
   obtain rfl:kb=r:=by simpa using hm
   have:=(hr kb rfl).1;omega)
theorem BK (W:World) (cs:Array Value) (t j:Nat):(W.alloc (.cells cs t)).cell? (af W.heap.size j)=cs[j]?:=A0 (bg W _)
theorem GX (W:World) (v:Value) (t:Nat):(W.alloc (.cells #[v] t)).cell? (af W.heap.size 0)=some v:=BK W _ t 0
theorem A6 {a:Addr}{v:Value} (o:Obj) (h:W.cell? a=some v):(W.alloc o).cell? a=some v:=cell_kept h (World.grownBy_alloc W o none) (λr e=>by cases e)
theorem MR (N:NG) (zy:List ByteArray) (pg:List Nm) (yZ:Option Addr) (yT gN yQ kb fb n₀:Nat) (w:World) (hP:Cz w n₀ N zy pg yZ yT gN yQ) (hkb:n₀<=kb) (Rk:fb<w.heap.size) (hfk:fb≠kb) (hfn:n₀<=w.heap.size)
  (f0:w.cell? (af fb 0)=some (.slice yZ N.nT yT)) (f1:w.cell? (af fb 1)=some (ae gN N.nN yQ)) (f2:w.cell? (af fb 2)=some (ae kb N.nN N.nN))
  (sf:Nat) (lb:Array Value) (he:∀args W,(callFunc sf args).run Tryz.prog W=.ok (.enter sf args) W)
  (step:List Fa->Nat × List Pt->List Fa) (μ:List Fa->Nat) (Inv:List Fa->Prop) (afS:∀k,Inv k->∀r∈N.rules,(step k r=k\/μ (step k r)<μ k)/\Inv (step k r))
  (hstep:∀W k r v,A5 w W [kb]->zY W kb N.nN k->Inv k->r∈N.rules->D1 W n₀ v r.2->Calls Tryz.prog sf (#[.pointer (some (af kb (r.1*4))),v]++lb) W λe W'=>e=.returned (.tuple #[])/\zY W' kb N.nN (step k r)/\A5 W W' [kb])
  (hpos:0<N.nN) (k0:List Fa) (hk0:zY w kb N.nN k0) (hI0:Inv k0):
  Calls Tryz.prog 153 #[ac fb,.func (.func sf) #[] lb] w λe w'=>e=.returned (.tuple #[])/\A5 w w' [kb]/\∃k,Inv k/\(∀r∈N.rules,step k r=k)/\zY w' kb N.nN k:=by
 refine(nk (n:=4)).1 ?_;refine qw Tryz.func153 rfl trivial ?_ rfl;simp only[Tryz.ntmps153,jf,lC,jd,Nat.reduceAdd,Nat.reduceSub,jm,jo,jy,jr,ey,iw]
 gi_wp2
 have HP:Hid (Cz w n₀ N zy pg yZ yT gN yQ):=hid hP;have HS:=hid hstep;have HI:=hid afS;have zW:=hk0.lt;have afT:=hP.Dm;have Rl:=hP.lN;have hgN:=hP.hgN;have HF:Hid (w.cell? (af fb 0)=some (.slice yZ N.nT yT)/\w.cell? (af fb 1)=some (ae gN N.nN yQ)/\w.cell? (af fb 2)=some (ae kb N.nN N.nN)):=hid ⟨f0,f1,f2⟩;have hKS:A5 w ((w.alloc (.cells #[ac fb] 212)).alloc (.cells #[.func (.func sf) #[] lb] 280)) [kb]:=((A5.refl w _).alloc _).alloc _;refine yX (λg a W=>∃(u4 u5 u6 u7 u8 u9 u10 u11 u12 u13 u14 u15 u16 u17 u18 u19 u20 u21 u22 u23 u24 u25 u26 u27 u28 u29 u30 u31 u32 u33:Value) (Ds:List Nat) (k:List Fa),
   a= {tmps:= #[ac fb,.func (.func sf) #[] lb,ac w.heap.size,ac (w.heap.size+1),u4,u5,u6,u7,u8,u9,u10,u11,u12,u13,u14,u15,u16,u17,u18,u19,u20,u21,u22,u23,u24,u25,u26,u27,u28,u29,u30,u31,u32,u33],defers:=UT Ds}/\
   g=μ k/\Inv k/\zY W kb N.nN k/\A5 w W [kb]/\W.cell? (af w.heap.size 0)=some (ac fb)/\W.cell? (af (w.heap.size+1) 0)=some (.func (.func sf) #[] lb)/\EB w Ds W) (μ k0) ?start ?round
 case start=>
  refine⟨_,_,_,_,_,_,_,_,_,_,_,_,_,_,_,_,_,_,_,_,_,_,_,_,_,_,_,_,_,_,[],k0,rfl,rfl,hI0,(hk0.keeps (((A5.refl w []).alloc _).alloc _) (by simp)),hKS,?_,?_,List.nodup_nil,λD hD=>by cases hD⟩
  ·exact A6 _ (GX w (ac fb) 212)
  ·have h1:=GX (w.alloc (.cells #[ac fb] 212)) (.func (.func sf) #[] lb) 280
   rw[bh]at h1;exact h1
 case round=>
  clear hP hstep afS hk0 hI0 f0 f1 f2 hKS;rintro g a W ⟨u4,u5,u6,u7,u8,u9,u10,u11,u12,u13,u14,u15,u16,u17,u18,u19,u20,u21,u22,u23,u24,u25,u26,u27,u28,u29,u30,u31,u32,u33,Ds,k,rfl,rfl,hIk,hk,hW,hb2,hb3,hM⟩;have Ue:Hid (zY W kb N.nN k/\Inv k):=hid ⟨hk,hIk⟩;have HW:Hid (A5 w W [kb]):=hid hW;have HM:Hid (EB w Ds W):=hid hM;have f0:W.cell? (af fb 0)=some (.slice yZ N.nT yT):=(hW.cell (by exact Rk) aaJ).trans HF.out.1;have f1:W.cell? (af fb 1)=some (ae gN N.nN yQ):=(hW.cell (by exact Rk) aaJ).trans HF.out.2.1;have f2:W.cell? (af fb 2)=some (ae kb N.nN N.nN):=(hW.cell (by exact Rk) aaJ).trans HF.out.2.2;have CC:=(nk (n:=3)).2 (pS W kb N.nN k hk afT hpos);clear hk hIk hW hM;have hsz:w.heap.size+1<W.heap.size:=bu W _ hb3;have Rm:kb<W.heap.size:=by omega
  gi_wp2_with (first
   | (refine⟨trivial,?_⟩;gi_at_call 204;refine CC.mono ?_;rintro e W1 ⟨gc,cc,rfl,aln,alo,afU,aiw,Vy⟩;clear CC;have HC:Hid (∀j,j<N.nN*4->W1.cell? (af gc j)=(DX k)[j]?):=hid afU;have zL:Hid (Below W.heap.size W W1):=hid Vy;replace hb2:=(Vy.cell (p:=(af w.heap.size 0)) adO).trans hb2;replace hb3:=(Vy.cell (p:=(af (w.heap.size+1) 0)) (by exact hsz)).trans hb3;replace f0:=(Vy.cell (p:=(af fb 0)) adS).trans f0;replace f1:=(Vy.cell (p:=(af fb 1)) adS).trans f1;replace f2:=(Vy.cell (p:=(af fb 2)) adS).trans f2;have aaU:=Vy.size;clear afU Vy)
   | (refine⟨trivial,?_⟩;gi_at_call 130;refine(TO Fence.wide 3 trivial rfl _ _ _ _ _ _ _).mono ?_;rintro e W2 ⟨rfl,rfl⟩))
  obtain⟨W0,hW0⟩:=qE (W1.alloc (.cells #[.slice yZ N.nT yT,ae gN N.nN yQ] 135));rw[hW0];have hs0:W0.heap.size=W1.heap.size+1:=by rw[<-hW0,bh]
  have Vz:W0.cell? (af W1.heap.size 1)=some (ae gN N.nN yQ):=by rw[<-hW0];exact BK W1 _ _ 1
  have hKW:A5 W W0 []:=by rw[<-hW0];exact(A5.zQ zL.out []).alloc _
  have hK0:A5 w W0 [kb]:=HW.out.trans (hKW.mono (λk h=>by cases h));have hM0:Hid (EB w Ds W0):=hid (HM.out.keeps hKW (λk h=>by cases h));have hk0:zY W0 kb N.nN k:=Ue.out.1.keeps hKW (by simp);have HC0:Hid (∀j,j<N.nN*4->W0.cell? (af gc j)=(DX k)[j]?):=hid λj hj=>by
   have h1:=HC.out j hj;rw[<-hW0];exact((jh ((dw W1 _ gc aiw)))).trans h1
  have b2:W0.cell? (af w.heap.size 0)=some (ac fb):=by rw[<-hW0];exact A6 _ hb2
  have b3:W0.cell? (af (w.heap.size+1) 0)=some (.func (.func sf) #[] lb):=by rw[<-hW0];exact A6 _ hb3
  have g2:W0.cell? (af fb 2)=some (ae kb N.nN N.nN):=by rw[<-hW0];exact A6 _ f2
  clear hb2 hb3 f0 f1 f2 hW0;refine xm (F:=Fence.wide) rfl (by omega) (gf:=183) (lb:= #[ac W1.heap.size]) rfl trivial (rq Tryz.func183 yM rfl)
   (O8 Fence.wide 3 trivial rfl (by omega) W1.heap.size n₀ N zy pg yZ yT gN yQ w W0 HP.out (hK0.below hfn (λq h=>by have:=mS.1 h;omega)) hfn (by omega) Vz) belowK_t (yK (by omega)) (ah _ _) (λ_=>rfl)
   (λpre W=>Inv ((pre.map λx=>x.1.1).foldl step k)/\zY W kb N.nN ((pre.map λx=>x.1.1).foldl step k)/\A5 W0 W [kb]) (λ_ _ _=>False)
   ?own (λ_ _ _ _ _ hs _ _=>hs) ⟨Ue.out.2,hk0,A5.refl _ _⟩
   (λx=>{tmps:= #[ac fb,.func (.func sf) #[] lb,ac w.heap.size,ac (w.heap.size+1),ae gc N.nN cc,ab (x.1.1.1:Int),x.1.2,ac fb,ac fb,.pointer (some (af fb 2)),ae kb N.nN N.nN,ae gc N.nN cc,ac fb,ac fb,ac fb,.agg #[.slice yZ N.nT yT,ae gN N.nN yQ],.func (.func 183) #[] #[ac W1.heap.size],ab (x.1.1.1:Int),x.1.2,u19,u20,u21,u22,u23,u24,u25,u26,u27,u28,u29,u30,u31,u32,u33],defers:=[]}) ?assign ?body ?done ?stop
  case assign=>
   intro l x W' K hK;simp only[XJ]
   gi_wp2
   exact hK
  case own=>
   rintro pre A B row ⟨h1,h2,h3⟩ hg hr;exact⟨h1,h2.step (by omega) hg hr,h3.grown hg (λr e=>.inr (hr r e).1)⟩
  case stop=>
   rintro D c pre W' _ _ h _;exact h.elim
  case body=>
   rintro l pre x V ⟨hv1,hv2,hv3⟩ _;obtain⟨⟨⟨rn,rp⟩,pv⟩,hx1,hx2⟩:=x;simp only at hx1 hx2 ⊢;have hpl:=HP.out.ok.lt _ hx1;simp only at hpl;have aix:w.heap.size+1<W0.heap.size:=by omega
   have hKV:A5 w V [kb]:=hK0.trans hv3;have c2:=(hv3.cell (p:=(af w.heap.size 0)) (by show w.heap.size<W0.heap.size;omega) aaB).trans b2;have c3:=(hv3.cell (p:=(af (w.heap.size+1) 0)) (by exact aix) (by show w.heap.size+1∉ [kb];simp;omega)).trans b3;have e2:=(hv3.cell (p:=(af fb 2)) (by show fb<W0.heap.size;omega) aaJ).trans g2;have CS:∀V',A5 V V' []->Calls Tryz.prog sf (#[.pointer (some (af kb (rn*4))),pv]++lb) V' λe W'=>e=.returned (.tuple #[])/\zY W' kb N.nN (step ((pre.map λx=>x.1.1).foldl step k) (rn,rp))/\A5 V' W' [kb]:=λV' Zk=>
    (HS.out V' _ (rn,rp) pv (hKV.trans (Zk.mono (λq h=>by cases h))) (hv2.keeps Zk (by simp)) hv1 hx1 (hx2.below ((hKV.trans (Zk.mono (λq h=>by cases h))).below hfn (λq h=>by have:=mS.1 h;omega))))
   have Dr:=hid CS;clear CS;clear hKV b2 b3 g2;have HV:=hid hv2;have Fo:=hid hv3;have Ig:=hid hv1;clear hv1 hv2 hv3
   gi_wp2
   have hlV:W0.heap.size<=V.heap.size:=Fo.out.size;have hl2:w.heap.size<V.drew.heap.size:=by show w.heap.size<V.heap.size;omega
   have Nd:w.heap.size+1<V.drew.heap.size:=by show w.heap.size+1<V.heap.size;omega
   have hlf:fb<V.drew.heap.size:=by show fb<V.heap.size;omega
   have abw:w.heap.size∉ [kb]:=by simp;omega
   have aaY:w.heap.size+1∉ [kb]:=by simp;omega
   refine GL (S:=λw'=>w'.cell? (af w.heap.size 0)=some (ac fb)/\w'.cell? (af (w.heap.size+1) 0)=some (.func (.func sf) #[] lb)/\w'.cell? (af fb 2)=some (ae kb N.nN N.nN)) hmx yM Lv ⟨c2,c3,e2⟩ (λhH=>?_);refine tB 0 hH ?_;refine tB 1 hH ?_;refine tB 2 hH ?_;refine tB 3 hH ?_;refine tB 4 hH ?_;refine tB 5 hH ?_;refine tB 6 hH ?_;refine tB 7 hH ?_;refine tL ?_;refine tS 8 λK hK=>?_
   refine tM ?_;rw[ay (by rfl)];go_simp;refine(Dr.out _ ((A5.refl _ _).drew)).mono ?_;rintro e V1 ⟨rfl,hn1,hn2⟩;refine hK.out _ _ ?_ λhH=>?_
   ·exact⟨(hn2.cell (by exact hl2) (by exact abw)).trans hH.1,(hn2.cell (by exact Nd) (by exact aaY)).trans hH.2.1,(hn2.cell (by exact hlf) aaJ).trans hH.2.2⟩
   clear hK K;refine tL ?_;refine bq yM ?_ _;have hst:((pre++ [(⟨((rn,rp),pv),hx1,hx2⟩:RI N w n₀)]).map λx=>x.1.1).foldl step k=step ((pre.map λx=>x.1.1).foldl step k) (rn,rp):=by
    rw[fq,ux];rfl
   refine⟨KeepsFrom.Mg (S:=[kb]) ⟨hn2.os,hn2.tape,hn2.output,hn2.size,hn2.block⟩ (λq h=>by have:=mS.1 h;omega),?_,?_,?_,?_⟩
   ·exact(A5.drew (A5.refl V [kb])).trans hn2 |>.below (by omega) (λq h=>by have:=mS.1 h;omega)
   ·rw[hst];exact(HI.out _ Ig.out _ hx1).2
   ·rw[hst];exact hn1
   ·exact Fo.out.trans ((A5.drew (A5.refl V [kb])).trans hn2)
  case done=>
   rintro D ys V hD hys ⟨hv1,hv2,hv3⟩ hd;rw[hys]at hv1 hv2;have hg2:=(hv3.cell (p:=(af fb 2)) (by show fb<W0.heap.size;omega) aaJ).trans g2;have c2:=(hv3.cell (p:=(af w.heap.size 0)) (by show w.heap.size<W0.heap.size;omega) aaB).trans b2;have c3:=(hv3.cell (p:=(af (w.heap.size+1) 0)) (by show w.heap.size+1<W0.heap.size;omega) (by show w.heap.size+1∉ [kb];simp;omega)).trans b3;have hMV:Hid (EB w (D::Ds) V):=hid (hM0.out.cons (hM0.out.keeps hv3 hk0.kind) (by omega) hD hd);have CE:=(nk (n:=3)).2 (oA V kb gc N.nN N.nN cc _ k hv2.1 Ue.out.1.1 afT (λj hj=>hv2.2.cellAt j hj) (λj hj=>by
    rw[hv3.cell (p:=(af gc j)) (by show gc<W0.heap.size;omega) (by show gc∉ [kb];simp;omega)];exact HC0.out j hj))
   have hff:=ZO step μ Inv N.rules (λs hs r hr=>HI.out s hs r hr) k Ue.out.2;have HV:=hid hv2;have Fo:=hid hv3;have Ig:=hid hv1;have HFF:=hid hff;clear hv1 hv2 hv3 hff b2 b3 g2
   by_cases hq:N.rules.foldl step k=k
   ·rw[iz hq]at CE
    gi_wp2_with (refine⟨trivial,?_⟩;gi_at_call 205;refine CE.mono ?_;rintro e V1 ⟨rfl,q,rfl⟩)
    refine L9 w.heap.size (λw'=>A5 w w' [kb]/\zY w' kb N.nN k) ?_ ?_ (D::Ds) _ ⟨?_,?_⟩ ?_ ?_
    ·rintro w' D' ⟨h1,h2⟩ Gs hd'
     exact⟨h1.grown (qo w' D' (.deferred none)) (λr e=>by cases e;exact .inr Gs),h2.step (B:=w.heap.size) zW (qo w' D' (.deferred none)) (λr e=>by cases e;exact⟨Gs,_,hd',rfl⟩)⟩
    ·rintro w' ⟨h1,h2⟩
     refine⟨_,qz rfl _ _ _,rfl,h1,k,Ue.out.2,?_,h2⟩
     rcases HFF.out.1 with h3 |h3
     ·exact h3.2
     ·rw[hq]at h3;omega
    ·exact(hK0.trans Fo.out).trans (A5.zQ (G8 _ _) _)
    ·have h1:=HV.out
     rw[hq]at h1;exact h1.keeps (A5.zQ (G8 _ _) []) (by simp)
    ·exact hMV.out.1
    ·exact λD' Gs=>hMV.out.2 D' Gs
   ·rw[gy hq]at CE
    gi_wp2_with (refine⟨trivial,?_⟩;gi_at_call 205;refine CE.mono ?_;rintro e V1 ⟨rfl,q,rfl⟩)
    have hlt:μ (N.rules.foldl step k)<μ k:=by
     rcases HFF.out.1 with h3 |h3
     ·exact absurd h3.1 hq
     ·exact h3
    refine⟨_,hlt,_,_,_,_,_,_,_,_,_,_,_,_,_,_,_,_,_,_,_,_,_,_,_,_,_,_,_,_,_,_,D::Ds,N.rules.foldl step k,rfl,rfl,HFF.out.2,HV.out.keeps (A5.zQ (G8 _ _) []) (by simp),(hK0.trans Fo.out).trans (A5.zQ (G8 _ _) _),c2,c3,hMV.out⟩
end
structure Aw (w:World) (n₀ fb kb:Nat) (N:NG) (zy:List ByteArray) (pg:List Nm) (yZ:Option Addr) (yT gN yQ:Nat) (k:List Fa):Prop where
 gr:Cz w n₀ N zy pg yZ yT gN yQ
 n0:n₀<=kb
 ne:fb≠kb
 lf:fb<w.heap.size
 f0:w.cell? (af fb 0)=some (.slice yZ N.nT yT)
 f1:w.cell? (af fb 1)=some (ae gN N.nN yQ)
 f2:w.cell? (af fb 2)=some (ae kb N.nN N.nN)
 kn:zY w kb N.nN k
theorem Aw.ln  (h:Aw w n₀ fb kb N zy pg yZ yT gN yQ k):n₀<=w.heap.size:=by
 have:=h.n0;have:=h.kn.lt;omega
theorem Aw.keeps {w':World}{k':List Fa} (h:Aw w n₀ fb kb N zy pg yZ yT gN yQ k) (hk:A5 w w' [kb]) (hn:zY w' kb N.nN k'):Aw w' n₀ fb kb N zy pg yZ yT gN yQ k' where
 gr:=h.gr.below (hk.below h.ln (λq hq=>by have:=mS.1 hq;have:=h.n0;omega))
 n0:=h.n0
 ne:=h.ne
 lf:=lL h.lf hk.size
 f0:=(hk.cell (by exact h.lf) acI).trans h.f0
 f1:=(hk.cell (by exact h.lf) acI).trans h.f1
 f2:=(hk.cell (by exact h.lf) acI).trans h.f2
 kn:=hn
theorem Aw.below {w':World} (h:Aw w n₀ fb kb N zy pg yZ yT gN yQ k) (hb:Below w.heap.size w w'):Aw w' n₀ fb kb N zy pg yZ yT gN yQ k:=
 h.keeps (A5.zQ hb _) (h.kn.keeps (A5.zQ hb []) (by simp))
def JQ (N:NG):Pt->Prop
 | .tok t=>t<N.nT
 | .zi n=>n<N.nN
theorem BE.at {ps:List Pt} (h:BE N ps) {i:Nat}{p:Pt} (hp:ps[i]?=some p):JQ N p:=by
 have hm:=mG hp;cases p with
 |tok t=>exact h.2 t hm
 |zi n=>exact h.1 n hm
theorem aE  (h:k[n]?=some a):BB k n=a.least:=by unfold BB;rw[h];rfl
theorem tN  (h:k[n]?=some a):F6 k n=a.reached:=by unfold F6;rw[h];rfl
theorem kQ  (h:k[n]?=some a):AQ k n=a.first:=by unfold AQ;rw[h];rfl
theorem VT  (h:k[n]?=some a):BC k n=a.follow:=by unfold BC;rw[h];rfl
theorem afV {P:Prop} (h:P:=by
  go_enter Tryz.func206,Tryz.ntmps206
  go_wp2
  go_quiet (fail)
  go_wp2;go_ret;exact⟨by rw[hr.out];rfl,by first |exact((ah _ _).alloc (zn _) _) |exact((ah _ _).alloc (zn _) _).trans (G8 _ _ |>.mono (by simp))⟩):P:=h
theorem s9 (w:World) (n₀ fb kb:Nat) (N:NG) (zy:List ByteArray) (pg:List Nm) (yZ:Option Addr) (yT gN yQ:Nat) (k:List Fa) (h:Aw w n₀ fb kb N zy pg yZ yT gN yQ k) (p:Pt) (hp:JQ N p):
  Calls Tryz.prog 206 #[ac fb,.agg #[.bool (AW p),ab (AV p)]] w λe w'=>e=.returned (ab (M8 N k p))/\Below w.heap.size w w':=by
 have hlf:=h.lf;have h0:=h.f0;have h2:=h.f2;have zT:=h.gr.Dm;have Ac:=h.gr.Ch;have hkb:=h.kn.lt;have H:=hid h;clear h;cases p with
 |tok t=>
  have ht:t<N.nT:=hp;obtain⟨gT,rfl,Je,_,hT⟩:=H.out.gr.toks t ht;have Iw:gT<w.heap.size:=by have:=H.out.ln;omega
  simp only[AW,AV];have hr:Hid (M8 N k (.tok t)=N.put t):=hid rfl;obtain⟨nT,hn1⟩:=qF (N.nT);rw[<-hn1]at h0 ht Ac;have H1:Hid (nT=N.nT):=hid hn1;clear hn1 h2;exact afV
 |zi n=>
  have hn:n<N.nN:=hp;obtain⟨a,ha⟩:∃a,k[n]?=some a:=⟨_,gE (by rw[H.out.kn.1];exact hn)⟩;have c0:=(H.out.kn.cells ha).1;simp only[AW,AV];have hr:Hid (M8 N k (.zi n)=a.least):=hid (aE ha);obtain⟨nN,hn1⟩:=qF (N.nN);rw[<-hn1]at h2 hn zT;have H1:Hid (nN=N.nN):=hid hn1;clear hn1 h0 ha;exact afV
theorem SH {α:Type}{l:List α}{x:α} (h:l[j]?=some x):l.drop j=x::l.drop (j+1):=by
 obtain⟨hj,rfl⟩:=zM.1 h;exact gm hj
theorem fP (w:World) (n₀ fb kb:Nat) (N:NG) (zy:List ByteArray) (pg:List Nm) (yZ:Option Addr) (yT gN yQ:Nat) (k:List Fa) (h:Aw w n₀ fb kb N zy pg yZ yT gN yQ k) (hfl:∀n,BB k n<=202) (v:Value) (ps:List Pt) (hv:D1 w n₀ v ps) (hps:BE N ps) (hlen:ps.length<=8):
  Calls Tryz.prog 155 #[ac fb,v] w λe w'=>e=.returned (ab (DN N k ps 0))/\Below w.heap.size w w':=by
 obtain⟨ad,cap,rfl,hcap,hcs⟩:=hv;obtain⟨L,hL⟩:=qF (ps.length);rw[<-hL]at hcap hcs hlen ⊢;have Bz:=h.ln;have H:=hid h;have HL:Hid (L=ps.length):=hid hL;have HC:=hid hcs;have HP:Hid (BE N ps):=hid hps;have HF:Hid (∀n,BB k n<=202):=hid hfl;clear h hL hcs hps hfl
 go_enter Tryz.func155,Tryz.ntmps155
 go_wp2
 go_loopw [5,11] (λs i wr=>∃j sN:Nat,j<=L/\i=ab j/\s=ab sN/\sN<=201/\Hid (DN N k ps 0=DN N k (ps.drop j) sN)/\Hid (Below w.heap.size w wr)) (λ_ i _=>L - (intOf i).toNat)
 case atStart=>exact⟨0,0,dh _,rfl,rfl,by omega,rfl,ah _ _⟩
 case round=>
  obtain⟨j,sN,hj,rfl,rfl,hs,HE,HB⟩:=hrel
  by_cases hlt:j<L
  ·obtain⟨p,hp⟩:∃p,ps[j]?=some p:=⟨_,gE aaF⟩
   obtain⟨g,off,rfl,hg,hcl⟩:=HC.out (by omega);have Iw:g<wr.heap.size:=by have:=HB.out.size;omega
   have p0:=(HB.out.cell (p:=(af g (off+j*2))) Jt).trans (hcl j p hp).1;have p1:=(HB.out.cell (p:=(af g (off+j*2+1))) Jt).trans (hcl j p hp).2;have HPt:Hid (JQ N p):=hid (HP.out.at hp);have HD:Hid (ps.drop j=p::ps.drop (j+1)):=hid (SH hp);have HK:Hid (Aw wr n₀ fb kb N zy pg yZ yT gN yQ k):=hid (H.out.below HB.out);have CP:=s9 (wr.alloc (.cells #[.bool (AW p),ab (AV p)] 235)) n₀ fb kb N zy pg yZ yT gN yQ k (HK.out.below ((ah _ _).alloc (zn _) _)) p HPt.out;have hc2:M8 N k p<=202:=by
    have h1:=HPt.out;cases p with
    |tok t=>have:=H.out.gr.ok.Za t h1;show N.put t<=202;omega
    |zi n=>exact HF.out n
   obtain⟨c,hc⟩:=qF (M8 N k p);rw[<-hc]at CP hc2;have Rg:Hid (c=M8 N k p):=hid hc;have hsz:wr.heap.size<=(wr.alloc (.cells #[.bool (AW p),ab (AV p)] 235)).heap.size:=by simp
   clear hcl hp hc
   by_cases ad7:c=202
   ·have Ba:Hid (DN N k ps 0=202):=hid (by
     rw[HE.out,HD.out];simp only[DN];rw[ay (by rw[<-Rg.out];exact ad7)])
    subst ad7
    go_wp2_with (go_at_call 206;refine CP.mono ?_;rintro e w2 ⟨rfl,hb2⟩;have zO:Hid (Below w.heap.size w w2):=hid ((HB.out.alloc HB.out.size _).trans (hb2.mono (by have:=HB.out.size;omega)));clear hb2 CP)
    go_ret;exact⟨by rw[Ba.out];rfl,zO.out⟩
   ·have Ba:Hid (DN N k ps 0=DN N k (ps.drop (j+1)) (min (sN+c) 201)):=hid (by
     rw[HE.out,HD.out];simp only[DN];rw[aq (by rw[<-Rg.out];exact ad7),<-Rg.out])
    have hne:((c:Int)==202)=false:=by simp;omega
    go_wp2_with (go_at_call 206;refine CP.mono ?_;rintro e w2 ⟨rfl,hb2⟩;have zO:Hid (Below w.heap.size w w2):=hid ((HB.out.alloc HB.out.size _).trans (hb2.mono (by have:=HB.out.size;omega)));clear hb2 CP)
    go_roundw
    case rel=>exact⟨j+1,min (sN+c) 201,by omega,by go_num,by go_num,by omega,Ba,zO⟩
    case measure=>simp[intOf];omega
  ·have Ba:Hid (DN N k ps 0=sN):=hid (by
    rw[HE.out,oc aaI];rfl)
   go_wp2;go_ret;exact⟨by rw[Ba.out];rfl,HB.out⟩
theorem zY.least {w:World}{kb n:Nat}{k:List Fa} (h:zY w kb n k) {i:Nat} (hi:i<n) {a:Fa} (ha:k[i]?=some a) (c x:Nat) (hx:x=min a.least c):
  zY (w.setCell (af kb (i*4)) (ab x)) kb n (k.modify i λa=>{a with least:=min a.least c})/\A5 w (w.setCell (af kb (i*4)) (ab x)) [kb]:=
 h.put hi _ 0 (by omega) _ (λb hb=>by rw[ha]at hb;cases hb;rw[hx];rfl)
theorem jH (w:World) (n₀ fb kb:Nat) (N:NG) (zy:List ByteArray) (pg:List Nm) (yZ:Option Addr) (yT gN yQ:Nat) (k:List Fa) (h:Aw w n₀ fb kb N zy pg yZ yT gN yQ k) (hfl:∀n,BB k n<=202)
  (Bx:Nat) (Pk:w.cell? (af Bx 0)=some (ac fb)) (v:Value) (r:Nat × List Pt) (hr:r∈N.rules) (hv:D1 w n₀ v r.2):
  Calls Tryz.prog 154 #[.pointer (some (af kb (r.1*4))),v,ac Bx] w λe w'=>e=.returned (.tuple #[])/\zY w' kb N.nN (EP N k r)/\A5 w w' [kb]:=by
 obtain⟨n,ps⟩:=r;have hn:n<N.nN:=h.gr.ok.lt _ hr;simp only at hv ⊢;have hps:BE N ps:=h.gr.ok.ps hr;have hlen:ps.length<=8:=h.gr.ok.parts _ hr;obtain⟨a,ha⟩:∃a,k[n]?=some a:=⟨_,gE (by rw[h.kn.1];exact hn)⟩;have c0:=(h.kn.cells ha).1;have fz:=h.kn.free (n*4);have zW:=h.kn.lt;have hBw:=bu w _ Pk;have CL:=fP w.drew n₀ fb kb N zy pg yZ yT gN yQ k (h.below ⟨rfl,rfl,rfl,zn _,λ_ _=>rfl⟩) hfl v ps (hv.below ⟨rfl,rfl,rfl,zn _,λ_ _=>rfl⟩) hps hlen;obtain⟨ad,cap,hve,_⟩:=hv;subst hve;have H:=hid h;have HA:=hid ha;have HN:Hid (n<N.nN):=hid hn;obtain⟨c,hc⟩:=qF (DN N k ps 0);rw[<-hc]at CL;have Nl:Hid (c=DN N k ps 0):=hid hc;have HCL:=hid CL;clear h hfl hr hps hlen ha hn hc CL;have hst:EP N k (n,ps)=k.modify n λa=>{a with least:=min a.least c}:=by rw[Nl.out];rfl
 have HST:=hid hst;clear hst
 go_enter Tryz.func154,Tryz.ntmps154
 refine AH (λw'=>w'.cell? (af kb (n*4))=some (ab a.least)/\w'.cell? (af Bx 0)=some (ac fb)/\w'.frozen? (af kb (n*4))=false/\Below w.heap.size w w') yM yM ⟨c0,Pk,fz,⟨rfl,rfl,rfl,zn _,λ_ _=>rfl⟩⟩ (λhH=>?_);simp only[AG,BP,AR];refine tB 0 hH ?_;refine tB 1 hH ?_;refine tB 2 hH ?_;refine tB 3 hH ?_;refine tB 4 hH ?_;refine tB 5 hH ?_;refine tB 6 hH ?_;refine tL ?_;refine tS 7 λK hK=>?_
 refine tM ?_;rw[ay (by rfl)];go_simp;refine HCL.out.mono ?_;rintro e w2 ⟨rfl,hb2⟩;refine hK.out _ _ ?_ λhH=>?_
 ·exact⟨(hb2.cell (by exact zW)).trans hH.1,(hb2.cell (by exact hBw)).trans hH.2.1,(og (w:=w.drew) (hb2.block kb zW)).trans hH.2.2.1,hH.2.2.2.trans hb2⟩
 clear hK K;refine tB 8 hH ?_;refine tB 9 hH ?_;refine tB 10 hH ?_;refine tB 11 hH ?_;refine tL ?_;refine bq yM ?_ _;have zO:=hid hH.2.2.2;have hz1:=hH.1;have hz2:=hH.2.2.1;clear hH;show wpList _ _ _ _ _ _;go_wp2
 all_goals go_end0
 all_goals
  have HL:=λx hx=>zY.least (H.out.kn.keeps (A5.zQ zO.out []) (by simp)) HN.out HA.out c x hx
  have hm:(min (a.least:Int) c)=((min a.least c:Nat):Int):=by omega
  have he:∀x,x=min a.least c->zY (w2.setCell (af kb (n*4)) (ab (x:Nat))) kb N.nN (EP N k (n,ps))/\A5 w (w2.setCell (af kb (n*4)) (ab (x:Nat))) [kb]:=λx hx=>⟨by rw[HST.out];exact(HL x hx).1,(A5.zQ zO.out _).trans (HL x hx).2⟩
  first
  |exact⟨rfl,he c (by omega)⟩
  |exact⟨rfl,he a.least (by omega)⟩
  | (rw[hm];exact⟨rfl,he _ rfl⟩)
def I2 (n j:Nat):List Fa:=(List.range n).map λi=>{least:=if i<j then 202 else 0,reached:=false,first:=0,follow:=0}
theorem KU (n j:Nat):(I2 n j).length=n:=by simp[I2]
theorem NK {i:Nat} (h:i<n):(I2 n j)[i]?=some {least:=if i<j then 202 else 0,reached:=false,first:=0,follow:=0}:=by
 simp[I2,h]
theorem iU:(I2 n j).modify j (λa=>{a with least:=202})=I2 n (j+1):=by
 apply oo;intro i;rw[JR]
 by_cases hi:i<n
 ·rw[NK hi,NK hi]
  split
  ·rename_i e
   subst e;simp
  ·rename_i e
   congr 2
   by_cases h1:i<j
   ·rw[ay h1,ay (by omega)]
   ·rw[aq h1,aq (by omega)]
 ·rw[eo (by rw[KU];omega),eo (by rw[KU];omega)]
  simp
theorem P7 (n:Nat) (m:Nat):BB (I2 n n) m=202:=by
 unfold BB
 by_cases h:m<n
 ·rw[NK h];simp[h]
 ·rw[eo (by rw[KU];omega)];rfl
theorem oG (N:NG):Bzq N (I2 N.nN N.nN) where
 len:=KU _ _
 only:=λa ha=>by
  obtain⟨i,_,rfl⟩:=dm.1 ha;exact⟨rfl,rfl,rfl⟩
 le:=λn=>by rw[P7];omega
 Yu:=λT _ n h=>absurd (P7 _ n) h
 Jz:=λT _ n h=>by rw[P7]at h;omega
 gr:=λT hT _ n=>by rw[P7];have:=hT n;omega
theorem QP (w:World) (n₀ fb kb:Nat) (N:NG) (zy:List ByteArray) (pg:List Nm) (yZ:Option Addr) (yT gN yQ:Nat) (h:Aw w n₀ fb kb N zy pg yZ yT gN yQ (I2 N.nN 0)):
  Calls Tryz.prog 106 #[ac fb] w λe w'=>e=.returned (.tuple #[])/\A5 w w' [kb]/\∃k,Bzq N k/\(∀r∈N.rules,EP N k r=k)/\zY w' kb N.nN k:=by
 have hlf:=h.lf;have h2:=h.f2;have zT:=h.gr.Dm;have hkb:=h.kn.lt;have hne:=h.ne;have H:=hid h;obtain⟨nN,hn1⟩:=qF (N.nN);rw[<-hn1]at h2 zT;have HN:Hid (nN=N.nN):=hid hn1;clear h hn1
 go_enter Tryz.func106,Tryz.ntmps106
 go_wp2
 go_loopw [8] (λi wr=>∃j:Nat,j<=nN/\i=ab j/\Hid (A5 w wr [kb])/\Hid (zY wr kb nN (I2 nN j))/\wr.cell? (af w.heap.size 0)=some (ac fb)/\wr.cell? (af fb 2)=some (ae kb nN nN)) (λi _=>nN - (intOf i).toNat)
 case atStart=>exact⟨0,dh _,rfl,(A5.refl _ _).alloc _,hid (by rw[HN.out];exact H.out.kn.keeps ((A5.refl w []).alloc _) (by simp)),GX _ _ _,A6 _ h2⟩
 case round=>
  obtain⟨j,hj,rfl,HK,HV,hb,hf⟩:=hrel;have hfz:=HV.out.free (j*4)
  by_cases hlt:j<nN
  ·have hc:=(HV.out.cells (NK hlt)).1
   have Pm:=bu wr _ hb;go_wp2
   go_roundw
   case rel=>
    obtain⟨h3,h4⟩:=HV.out.put hlt (λa=>{a with least:=202}) 0 (by omega) (ab 202) (λa _=>rfl);rw[iU]at h3;refine⟨j+1,by omega,by go_num,hid (HK.out.trans h4),h3,?_,?_⟩
    ·exact(h4.cell (by exact Pm) aaB).trans hb
    ·exact(h4.cell (by show fb<wr.heap.size;have:=HK.out.size;omega) abh).trans hf
   case measure=>simp[intOf];omega
  ·obtain rfl:j=nN:=by omega
   have HX:Hid (Aw wr n₀ fb kb N zy pg yZ yT gN yQ (I2 N.nN N.nN)):=hid (H.out.keeps HK.out (by have h3:=HV.out;rw[HN.out]at h3;exact h3));have Pm:w.heap.size<wr.heap.size:=bu wr _ hb;have CS:=MR N zy pg yZ yT gN yQ kb fb n₀ wr HX.out.gr HX.out.n0 HX.out.lf HX.out.ne HX.out.ln HX.out.f0 HX.out.f1 HX.out.f2 154 #[ac w.heap.size] (rq Tryz.func154 yM rfl)
    (EP N) (GD (·.least)) (Bzq N) (λk hk r hr=>aX HX.out.gr.ok hk hr)
    (λW k r v hW hk hI hr hv=>jH W n₀ fb kb N zy pg yZ yT gN yQ k (HX.out.keeps hW hk) hI.le w.heap.size ((hW.cell (by exact Pm) aaB).trans hb) v r hr hv)
    HX.out.gr.ok.pos (I2 N.nN N.nN) HX.out.kn (oG N)
   have Dr:=hid CS;clear CS
   go_wp2_with (go_at_call 153;refine Dr.out.mono ?_;rintro e w2 ⟨rfl,hk2,hr2⟩;have HR:=hid (And.intro hk2 hr2);clear hk2 hr2)
   go_end0
   exact⟨rfl,HK.out.trans HR.out.1,HR.out.2⟩
theorem ad8 {P:Prop} (h:P:=by
  rw[JR]
  by_cases h:n=m
  ·subst h
   by_cases hl:n<k.length
   ·rw[ay rfl,ay ⟨rfl,hl⟩,gE hl];rfl
   ·rw[ay rfl,aq (λh=>hl h.2),eo (by omega)];rfl
  ·rw[aq h,aq (λe=>h e.1)]):P:=h
theorem ZA (k:List Fa) (n m:Nat) (f:Fa->Fa):F6 (k.modify n f) m=if n=m/\m<k.length then(k[m]?.map λa=>(f a).reached).getD false else F6 k m:=by
 unfold F6;exact ad8
theorem Y5 (k:List Fa) (n m:Nat) (f:Fa->Fa):AQ (k.modify n f) m=if n=m/\m<k.length then(k[m]?.map λa=>(f a).first).getD 0 else AQ k m:=by
 unfold AQ;exact ad8
theorem R8 (k:List Fa) (n m:Nat) (f:Fa->Fa):BC (k.modify n f) m=if n=m/\m<k.length then(k[m]?.map λa=>(f a).follow).getD 0 else BC k m:=by
 unfold BC;exact ad8
theorem LQ  (h:∀a,(f a).least=a.least) (m:Nat):BB (k.modify n f) m=BB k m:=by
 rw[R5];split
 ·unfold BB;simp[h]
 ·rfl
theorem XU  (h:∀a,(f a).reached=a.reached) (m:Nat):F6 (k.modify n f) m=F6 k m:=by
 rw[ZA];split
 ·unfold F6;simp[h]
 ·rfl
theorem KX  (h:∀a,(f a).first=a.first) (m:Nat):AQ (k.modify n f) m=AQ k m:=by
 rw[Y5];split
 ·unfold AQ;simp[h]
 ·rfl
theorem WU  (h:∀a,(f a).follow=a.follow) (m:Nat):BC (k.modify n f) m=BC k m:=by
 rw[R8];split
 ·unfold BC;simp[h]
 ·rfl
def J2 (a:Fa):Fa:={a with reached:=true}
def DU (m:Nat):List Pt->List Fa->List Fa
 | [],k=>k
 | .tok _::ps,k=>DU m ps k
 | .zi n::ps,k=>DU m ps (if F6 k m=true then k.modify n J2 else k)
def GR (k:List Fa) (r:Nat × List Pt):List Fa:=DU r.1 r.2 k
def SB (a:Fa):Nat:=if a.reached then 0 else 1
theorem OM (k:List Fa) (n m:Nat):F6 (k.modify n J2) m=if n=m/\m<k.length then true else F6 k m:=by
 rw[ZA];split
 ·rename_i h
  rw[gE h.2];rfl
 ·rfl
theorem rF (k:List Fa) (n:Nat):k.modify n J2=k\/GD SB (k.modify n J2)<GD SB k:=NW λa _=>by
 cases h:a.reached
 ·right;simp[SB,J2,h]
 ·left;unfold J2;cases a;simp at h;simp[h]
theorem UY (m:Nat):∀(ps:List Pt) (k:List Fa),(DU m ps k=k/\(F6 k m=true->∀n,Pt.zi n∈ps->n<k.length->F6 k n=true))\/GD SB (DU m ps k)<GD SB k:=by
 intro ps
 induction ps with
 |nil=>intro k;exact .inl ⟨rfl,λ_ n h=>by cases h⟩
 |cons p ps ih=>
  intro k;cases p with
  |tok t=>
   refine(ih k).imp (λh=>⟨h.1,λhm n hn hl=>h.2 hm n ?_ hl⟩) id
   rcases bk.1 hn with hn |hn
   ·cases hn
   ·exact hn
  |zi n=>
   unfold DU
   by_cases hm:F6 k m=true
   ·rw[ay hm]
    rcases rF k n with h1 |h1
    ·rw[h1]
     refine(ih k).imp (λh=>⟨h.1,λhm n' hn hl=>?_⟩) id
     rcases bk.1 hn with hn |hn
     ·injection hn with hn
      subst hn;rw[<-h1,OM,ay ⟨rfl,hl⟩]
     ·exact h.2 hm n' hn hl
    ·rcases ih (k.modify n J2)with⟨h2,_⟩ |h2
     ·right;rw[h2];exact h1
     ·right;omega
   ·rw[aq hm]
    exact(ih k).imp (λh=>⟨h.1,λh'=>absurd h' hm⟩) id
theorem eZ (m:Nat):∀(ps:List Pt) (k:List Fa),(DU m ps k).length=k.length/\(∀n,BB (DU m ps k) n=BB k n)/\(∀n,AQ (DU m ps k) n=AQ k n)/\(∀n,BC (DU m ps k) n=BC k n)/\(∀n,F6 k n=true->F6 (DU m ps k) n=true):=by
 intro ps
 induction ps with
 |nil=>intro k;exact⟨rfl,λ_=>rfl,λ_=>rfl,λ_=>rfl,λ_ h=>h⟩
 |cons p ps ih=>
  intro k;cases p with
  |tok t=>exact ih k
  |zi n=>
   unfold DU;split
   ·obtain⟨h1,h2,h3,h4,h5⟩:=ih (k.modify n J2)
    refine⟨by rw[h1,tq],λq=>by rw[h2,LQ (f:=J2) (λ_=>rfl)],λq=>by rw[h3,KX (f:=J2) (λ_=>rfl)],λq=>by rw[h4,WU (f:=J2) (λ_=>rfl)],λq hq=>h5 q ?_⟩;rw[OM];split
    ·rfl
    ·exact hq
   ·exact ih k
theorem bC {m:Nat}{T:Nat->Bool}:∀(ps:List Pt) (k:List Fa),(∀n,F6 k n=true->T n=true)->(T m=true->∀n,Pt.zi n∈ps->T n=true)->∀n,F6 (DU m ps k) n=true->T n=true:=by
 intro ps
 induction ps with
 |nil=>intro k h _ n hn;exact h n hn
 |cons p ps ih=>
  intro k h hp;cases p with
  |tok t=>exact ih k h (λhm n hn=>hp hm n (gj _ hn))
  |zi n=>
   unfold DU;refine ih _ (λq hq=>?_) (λhm n hn=>hp hm n (gj _ hn));split at hq
   ·rename_i hm
    rw[OM]at hq;split at hq
    ·rename_i h1
     rw[<-h1.1];exact hp (h m hm) n (ew ..)
    ·exact h q hq
   ·exact h q hq
structure KH (N:NG) (k0 k:List Fa):Prop where
 len:k.length=N.nN
 fl:∀n,BB k n=BB k0 n
 fh:∀n,AQ k n=AQ k0 n
 fo:∀n,BC k n=BC k0 n
 z:F6 k 0=true
 sound:∀T,WW N T->∀n,F6 k n=true->T n=true
theorem dF  (h:KH N k0 k) {r:Nat × List Pt} (hr:r∈N.rules):(GR k r=k\/GD SB (GR k r)<GD SB k)/\KH N k0 (GR k r):=by
 obtain⟨h1,h2,h3,h4,h5⟩:=eZ r.1 r.2 k;exact⟨(UY r.1 r.2 k).imp (λh=>h.1) id,by unfold GR;rw[h1];exact h.len,λn=>(h2 n).trans (h.fl n),λn=>(h3 n).trans (h.fh n),λn=>(h4 n).trans (h.fo n),h5 0 h.z,λT hT=>bC r.2 k (h.sound T hT) (λhm n hn=>hT.2 r hr hm n hn)⟩
theorem jJ  (hN:N.Ok)  (h:KH N k0 k) (hst:∀r∈N.rules,GR k r=k):Ng (WW N) (F6 k):=by
 refine⟨⟨h.z,λr hr hm n hn=>?_⟩,h.sound⟩
 rcases UY r.1 r.2 k with⟨_,h2⟩ |h2
 ·exact h2 hm n hn (by rw[h.len];exact hN.pn r hr n hn)
 ·have:=hst r hr
  unfold GR at this;rw[this]at h2;omega
theorem eH  (hN:N.Ok)  (hl:k0.length=N.nN) (h0:∀n,F6 k0 n=false):KH N k0 (k0.modify 0 J2) where
 len:=by rw[tq];exact hl
 fl:=LQ (f:=J2) (λ_=>rfl)
 fh:=KX (f:=J2) (λ_=>rfl)
 fo:=WU (f:=J2) (λ_=>rfl)
 z:=by rw[OM,ay ⟨rfl,by rw[hl];exact hN.pos⟩]
 sound:=λT hT n hn=>by
  rw[OM]at hn;split at hn
  ·rename_i h;rw[<-h.1];exact hT.1
  ·rw[h0]at hn;cases hn
def Bh (k:List Fa) (n:Nat):Bool:=decide (BB k n=0)
def BF (k:List Fa):List Pt->Nat->Nat × Bool
 | [],f=>(f,true)
 | .tok t::_,f=>(f|||1<<<t,false)
 | .zi n::ps,f=>if BB k n=0 then BF k ps (f|||AQ k n)else(f|||AQ k n,false)
theorem JO (k:List Fa):∀(ps:List Pt) (f:Nat),(BF k ps f).2=FN (Bh k) ps/\∀t,(BF k ps f).1.testBit t=(f.testBit t||E5 (Bh k) (λn=>(AQ k n).testBit t) t ps)
 | [],f=>⟨rfl,λt=>by simp[BF,E5]⟩
 | .tok u::ps,f=>⟨rfl,λt=>by
   simp only[BF,E5,vg,qx,xq]
   congr 1⟩
 | .zi n::ps,f=>by
  simp only[BF]
  by_cases h:BB k n=0
  ·rw[ay h]
   obtain⟨h1,h2⟩:=JO k ps (f|||AQ k n);refine⟨by rw[h1];simp[FN,Bh,h],λt=>?_⟩;rw[h2];simp[E5,Bh,h,vg,Bool.or_assoc]
  ·rw[aq h]
   refine⟨by simp[FN,Bh,h],λt=>?_⟩;simp[E5,Bh,h,vg]
theorem LF {N:NG} (hT:N.nT<=20) {k:List Fa} (hk:∀n,AQ k n<2 ^21):∀(ps:List Pt) (f:Nat),BE N ps->f<2 ^21->(BF k ps f).1<2 ^21
 | [],f,_,h=>h
 | .tok t::ps,f,hp,h=>by
  simp only[BF];refine uh h ?_;rw[qx];exact yY (by omega) (by have:=hp.2 t (ew ..);omega)
 | .zi n::ps,f,hp,h=>by
  simp only[BF];have h1:=uh h (hk n);split
  ·exact LF hT hk ps _ hp.tail h1
  ·exact h1
def EM (k:List Fa) (r:Nat × List Pt):List Fa:=k.modify r.1 λa=>{a with first:=a.first||| (BF k r.2 0).1}
structure IF (N:NG) (k0 k:List Fa):Prop where
 len:k.length=N.nN
 fl:∀n,BB k n=BB k0 n
 fr:∀n,F6 k n=F6 k0 n
 fo:∀n,BC k n=BC k0 n
 lt:∀n,AQ k n<2 ^21
 sound:∀t T,XC N (Bh k0) t T->∀n,(AQ k n).testBit t=true->T n=true
def aC (a:Fa):Nat:=2 ^21 - a.first
def O1 (a:Fa):Nat:=2 ^21 - a.follow
theorem iM (k:List Fa) (n m x:Nat):AQ (k.modify n λa=>{a with first:=a.first|||x}) m=if n=m/\m<k.length then AQ k m|||x else AQ k m:=by
 rw[Y5];split
 ·rename_i h
  unfold AQ;rw[gE h.2];rfl
 ·rfl
theorem xQ (k:List Fa) (n m x:Nat):BC (k.modify n λa=>{a with follow:=a.follow|||x}) m=if n=m/\m<k.length then BC k m|||x else BC k m:=by
 rw[R8];split
 ·rename_i h
  unfold BC;rw[gE h.2];rfl
 ·rfl
theorem dC  (hN:N.Ok) (hT:N.nT<=20)  (h:IF N k0 k) {r:Nat × List Pt} (hr:r∈N.rules):(EM k r=k\/GD aC (EM k r)<GD aC k)/\IF N k0 (EM k r):=by
 have hb:=LF hT h.lt r.2 0 (hN.ps hr) (by decide);have hem:Bh k=Bh k0:=by funext n;unfold Bh;rw[h.fl]
 refine⟨NW λa ha=>?_,by unfold EM;rw[tq];exact h.len,λn=>(LQ (f:=λa=>{a with first:=a.first||| (BF k r.2 0).1}) (λ_=>rfl) n).trans (h.fl n),λn=>(XU (f:=λa=>{a with first:=a.first||| (BF k r.2 0).1}) (λ_=>rfl) n).trans (h.fr n),λn=>(WU (f:=λa=>{a with first:=a.first||| (BF k r.2 0).1}) (λ_=>rfl) n).trans (h.fo n),λn=>?_,λt T hC n hn=>?_⟩
 ·have ha2:a.first<2 ^21:=by
   have:=h.lt r.1;unfold AQ at this;rw[ha]at this;exact this
  have hle:a.first<=a.first||| (BF k r.2 0).1:=Nat.left_le_or;have hlt:=uh ha2 hb
  by_cases he:a.first||| (BF k r.2 0).1=a.first
  ·left;rw[he]
  ·right;unfold aC;simp only;omega
 ·unfold EM
  rw[iM];split
  ·exact uh (h.lt n) hb
  ·exact h.lt n
 ·unfold EM at hn
  rw[iM]at hn;split at hn
  ·rename_i h1
   rw[vg,oq]at hn
   rcases hn with hn |hn
   ·exact h.sound t T hC n hn
   ·rw[(JO k r.2 0).2 t,Nat.zero_testBit,zI,hem]at hn
    rw[<-h1.1];exact hC r hr (RJ (λm hm=>h.sound t T hC m hm) _ hn)
  ·exact h.sound t T hC n hn
theorem jE  (hN:N.Ok)  (h:IF N k0 k) (hst:∀r∈N.rules,EM k r=k) (t:Nat):Ng (XC N (Bh k0) t) (λn=>(AQ k n).testBit t):=by
 refine⟨λr hr hb=>?_,h.sound t⟩;have hem:Bh k=Bh k0:=by funext n;unfold Bh;rw[h.fl]
 have h1:=congrArg (λq=>(AQ q r.1).testBit t) (hst r hr);simp only[EM]at h1;rw[iM,ay ⟨rfl,by rw[h.len];exact hN.lt r hr⟩,vg,(JO k r.2 0).2 t,hem,hb]at h1;simpa using h1.symm
theorem eC  (hl:k0.length=N.nN) (h0:∀n,AQ k0 n=0):IF N k0 k0 where
 len:=hl
 fl:=λ_=>rfl
 fr:=λ_=>rfl
 fo:=λ_=>rfl
 lt:=λn=>by rw[h0];decide
 sound:=λt T _ n hn=>by rw[h0]at hn;simp at hn
end Go.Proofs.YtjjggdcnpndgjaaGreatDoor
