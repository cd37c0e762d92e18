import Derived.Test.YtjjggdcnpndgjaaGreatDoorHJ32
set_option linter.unusedSimpArgs false
set_option maxHeartbeats 8000000
set_option maxRecDepth 100000
namespace Go.Proofs.YtjjggdcnpndgjaaGreatDoor
open Go.RowKit Go.Shelf
section
attribute [local go_sem] Oper.semAt_some
def BD (l:List (Nat × List Pt)):List (Option Pt) × (Nat->List Nat):=l.foldl D0 ([],λ_=>[])
theorem SB (l:List (Nat × List Pt)) (r:Nat × List Pt):BD (l++ [r])=D0 (BD l) r:=by unfold BD;rw[uk];rfl
theorem SQ:∀(l:List (Nat × List Pt)) (s:List (Option Pt) × (Nat->List Nat)),(∀r∈l,r.2.length<=8)->(l.foldl D0 s).1.length<=s.1.length+9*l.length/\∀n,((l.foldl D0 s).2 n).length<=(s.2 n).length+l.length
 | [],s,_=>⟨by simp,λn=>by simp⟩
 |r::l,s,h=>by
  obtain⟨h1,h2⟩:=SQ l (D0 s r) (λx hx=>h x (fj _ hx));have h3:=h r (eo ..);rw[ld];refine⟨?_,λn=>?_⟩
  ·have e:(D0 s r).1.length=s.1.length+r.2.length+1:=by simp[D0];omega
   simp only[lC];omega
  ·have e:((D0 s r).2 n).length<=(s.2 n).length+1:=by
    simp only[D0];split
    ·simp
    ·omega
   have:=h2 n;simp only[lC];omega
theorem A1.over {a b c:World}{S S':List Nat} (h:A1 a b S) (k:A1 b c S') (hS:∀q∈S',q∈S\/a.heap.size<=q):A1 a c S:=
 ⟨k.os.trans h.os,k.tape.trans h.tape,k.output.trans h.output,y5 h.size k.size,λq hq hm=>(k.block q (lL hq h.size) (λh1=>by
  rcases hS q h1 with e |e
  ·exact hm e
  ·omega)).trans (h.block q hq hm)⟩
theorem RK (l:List (Nat × List Pt)) (h:∀r∈l,r.2.length<=8):(BD l).1.length<=9*l.length/\∀n,((BD l).2 n).length<=l.length:=by
 obtain⟨h1,h2⟩:=SQ l ([],λ_=>[]) h;unfold BD;exact⟨by simpa using h1,λn=>by simpa using h2 n⟩
theorem bI {T:zn}{w:World} (hI:T.In w) {wb:Nat}{rv vd:Value} (Xj:w.heap[wb]?=some (.cells #[ac T.tb,rv,vd,.slice none 0 0,.slice none 0 0,.slice none 0 0] 306 (0,0))) (hBw:T.Bd wb):
  Calls Tryz.prog 188 #[ac wb] w λe w'=>e=.returned (.tuple #[])/\∃gh vT hv,GS w' w.heap.size wb gh (ac T.tb) rv vd T.N.nN vT hv (BD T.N.rules).1 (BD T.N.rules).2/\A1 w w' [wb]:=by
 obtain⟨iT,hiT,acf,acg,ach⟩:=jc Tryz.infoB346;obtain⟨iI,Io,Ip,Iq,Ir⟩:=jc Tryz.infoX3;obtain⟨iS,Ij,Ik,Il,Im⟩:=jc Tryz.infoX45;have Au:wb<w.heap.size:=ak Xj;obtain⟨d0,d1,_⟩:=hI.tv.Ar;have zW:=hI.bd;have Bk:T.tb<w.heap.size:=zW.tb;have zU:=hI.fc.gr.Bt;have ajw:=hI.fc.gr.Lr;have Ss:Hid (T.In w):=hid hI;obtain⟨nN,yY⟩:=qF (T.N.nN);have Ec:=hid yY;rw[<-yY]at d1 zU ⊢;clear hI yY;refine(mq (n:=4)).1 ?_;refine qg Tryz.func188 rfl trivial ?_ rfl;simp only[Tryz.ntmps188,iz,lC,iw,Nat.reduceAdd,Nat.reduceSub,jg,jh,ju,jo,eu,ig];have bx:=ay w (.cells #[ac wb] 270);obtain⟨w1,hw1⟩:=qE (w.alloc (.cells #[ac wb] 270));have hk1:A1 w w1 []:=by rw[<-hw1];exact(A1.refl w []).alloc _
 have hs1:w.heap.size<w1.heap.size:=by rw[<-hw1,bg];omega
 have Fi:=hid hw1;rw[hw1]at bx;clear hw1;have abp:=(hk1.block wb Au (by simp)).trans Xj;have e0:w1.cell? (af wb 0)=some (ac T.tb):=(A0 abp).trans rfl;have e4:w1.cell? (af wb 4)=some (.slice none 0 0):=(A0 abp).trans rfl;have f4:w1.frozen? (af wb 4)=false:=A3 abp;have d1':=(hk1.cell (p:=(af T.tb 1)) (by exact Bk) (by simp)).trans d1
 gi_wp2_with fail
 rw[Fi.out];refine KD ((xe (n:=4)).2 ?_);refine AE (λw'=>w'.cell? (af w.heap.size 0)=some (ac wb)/\w'.cell? (af wb 0)=some (ac T.tb)/\w'.cell? (af T.tb 1)=some (ae T.gN nN T.xY)) hmx yg ⟨(A0 bx).trans rfl,e0,d1'⟩ (λhH=>?_);simp only[AB,BM,AO];refine tB 0 hH ?_;refine tB 1 hH ?_;refine tB 2 hH ?_;refine tB 3 hH ?_;refine tB 4 hH ?_;refine tB 5 hH ?_;refine tB 6 hH ?_;refine tB 7 hH ?_;refine tB 8 hH ?_;refine tB 9 hH ?_;refine tB 10 hH ?_;refine tL ?_;refine tS 11 λK hK=>?_
 refine tM ?_;rw[aq (by rfl)];refine G7 _ (.tmp 16) (.tmp 16) 60 rfl 45 iS (.slice none 0 0) Tryz.underlying60 Ij Ik nN rfl rfl (by rw[Im];omega) (by omega) ?_;rw[Il];refine hK.out _ _ ?_ λhH=>?_
 ·exact⟨A2 _ hH.1,A2 _ hH.2.1,A2 _ hH.2.2⟩
 clear hK K;refine tL ?_;refine tB 12 hH ?_;refine tB 13 hH ?_;refine tB 14 hH ?_;refine tL ?_;refine bk yg ?_ _;clear hH;have hmk:w1.drew.alloc (.cells (madeCells (Value.slice none 0 0).cells (nN*1)) 45)=(w1.alloc (.cells (madeCells #[.slice none 0 0] nN) 45)).drew:=by rw[Nat.mul_one];rfl
 rw[hmk];clear hmk;obtain⟨W2,hW2⟩:=qE ((w1.alloc (.cells (madeCells #[.slice none 0 0] nN) 45)).drew);have hk2:A1 w1 W2 []:=by rw[<-hW2];exact((A1.refl w1 []).alloc _).drew
 have aed:W2.heap[w1.heap.size]?=some (.cells (madeCells #[.slice none 0 0] nN) 45 (0,0)):=by rw[<-hW2];exact ay w1 _
 have hs2:w1.heap.size<W2.heap.size:=ak aed;rw[hW2];have acB:=(hk2.block wb (by omega) (by simp)).trans abp;have e4':W2.cell? (af wb 4)=some (.slice none 0 0):=(A0 acB).trans rfl;have f4':W2.frozen? (af wb 4)=false:=A3 acB;have Xc:=(hk2.block w.heap.size hs1 (by simp)).trans bx;have HX:=hid (And.intro (hk1.trans hk2) (And.intro acB aed));clear hW2 hk2 aed acB e0 e4 f4 d1' hk1 abp;show wpList _ _ _ _ _ _;go_wp2;obtain⟨W3,hW3⟩:=qE (W2.setCell (af wb 4) (ae w1.heap.size nN nN));have hk3:A1 W2 W3 [wb]:=by rw[<-hW3];exact(A1.refl W2 [wb]).setCell (by simp) _
 have hb3:W3.heap[wb]?=some (.cells #[ac T.tb,rv,vd,.slice none 0 0,ae w1.heap.size nN nN,.slice none 0 0] 306 (0,0)):=by rw[<-hW3];exact A6 (j:=4) HX.out.2.1 _
 rw[hW3];clear hW3;refine FA (Q:=λ_ _ _=>False) ?_;have aee:A1 w W3 [wb]:=(HX.out.1.mono (λq h=>by cases h)).trans hk3;have hI3:T.In W3:=Ss.out.below (B:=wb) hBw (aee.below (by omega) (λq hq=>by rw[mS.1 hq];exact yF _));have HC3:Hid (GS W3 w.heap.size wb w1.heap.size (ac T.tb) rv vd nN (.slice none 0 0) (λ_=>.slice none 0 0) (BD []).1 (BD []).2):=hid
  ⟨hb3,je _ _ _ _,⟨_,(hk3.block _ hs2 yM).trans HX.out.2.2,by simp[vu],λn hn=>by simp[madeCells,hn,Nat.mod_one]⟩,λn hn=>je _ _ _ _,λn m _ _ _ g hg=>by simp[Value.ownBlock]at hg,by omega,Au⟩
 have agD:W3.heap[w.heap.size]?=some (.cells #[ac wb] 270 (0,0)):=(hk3.block w.heap.size (by omega) yM).trans Xc;have bx3:W3.cell? (af w.heap.size 0)=some (ac wb):=(A0 agD).trans rfl;have e03:W3.cell? (af wb 0)=some (ac T.tb):=(A0 hb3).trans rfl;obtain⟨g0,g1,_⟩:=hI3.tv.Ar;rw[<-Ec.out]at g1;have hs3:w1.heap.size<W3.heap.size:=by have:=hk3.size;omega
 have Ma:=hid hI3;have ajx:=hid aee;clear hI3 aee hk3 hb3
 gi_wp2_with (refine⟨trivial,?_⟩;gi_at_call 130;refine(U0 Fence.wide 3 trivial rfl _ _ _ _ _ _ _).mono ?_;rintro e W4' ⟨rfl,rfl⟩)
 have Tp:=BF W3 #[.slice T.yu T.N.nT T.yl,ae T.gN nN T.xY] 135 1;obtain⟨W4,Dv⟩:=qE (W3.alloc (.cells #[.slice T.yu T.N.nT T.yl,ae T.gN nN T.xY] 135));have hk4:A1 W3 W4 []:=by rw[<-Dv];exact(A1.refl W3 []).alloc _
 have Ea:W3.heap.size<W4.heap.size:=by rw[<-Dv,bg];omega
 rw[Dv]at Tp ⊢;have bx4:=(hk4.block w.heap.size (by omega) (by simp)).trans agD;have Ge:=hid (HC3.out.keeps hk4 (λk h=>by cases h));have ajy:Hid (A1 w W4 [wb]):=hid (ajx.out.trans (hk4.mono (λq h=>by cases h)));clear Dv bx3 e03 g0 g1;have Tp:W4.cell? (af W3.heap.size 1)=some (ae T.gN T.N.nN T.xY):=by rw[<-Ec.out];exact Tp.trans rfl
 refine wm (F:=Fence.wide) rfl (by omega) (gf:=183) (lb:= #[ac W3.heap.size]) rfl trivial (qo Tryz.func183 yg rfl)
  (NU Fence.wide 3 trivial rfl (by omega) W3.heap.size T.n0 T.N T.yL T.pg T.yu T.yl T.gN T.xY W3 W4 Ma.out.fc.gr (hk4.below Ma.out.fc.ln (λq h=>by cases h)) Ma.out.fc.ln (by omega) Tp) belowK_t (xX (by have:=Ma.out.fc.ln;omega)) (ah _ _) (λ_=>rfl)
  (fun(pre:List (RI T.N W3 T.n0)) W=>∃vT hv,GS W w.heap.size wb w1.heap.size (ac T.tb) rv vd nN vT hv (BD (pre.map λx=>x.1.1)).1 (BD (pre.map λx=>x.1.1)).2/\A1 w W [wb]/\W.heap[w.heap.size]?=some (.cells #[ac wb] 270 (0,0))/\W4.heap.size<=W.heap.size/\Below T.n0 W3 W) (λ_ _ _=>False)
  ?own (λ_ _ _ _ _ hs _ _=>hs) ⟨.slice none 0 0,λ_=>.slice none 0 0,Ge.out,ajy.out,bx4,yF _,hk4.below Ma.out.fc.ln (λq h=>by cases h)⟩
  (λx=>{tmps:= #[ac wb,ac w.heap.size,ab (x.1.1.1:Int),x.1.2,undef,undef,ac wb,ac wb,ac wb,ac wb,ac T.tb,ac T.tb,ac T.tb,ac T.tb,.pointer (some (af T.tb 1)),ae T.gN nN T.xY,ab nN,ae w1.drew.heap.size nN nN,ac wb,.pointer (some (af wb 4)),ac wb,ac wb,ac wb,ac T.tb,ac T.tb,ac T.tb,ac T.tb,.agg #[.slice T.yu T.N.nT T.yl,ae T.gN nN T.xY],.func (.func 183) #[] #[ac W3.heap.size],ab (x.1.1.1:Int),x.1.2,undef,undef,undef,undef,undef,undef,undef,undef,undef,undef,undef,undef,undef,undef,undef,undef,undef,undef,undef,undef,undef,undef,undef,undef,undef,undef,undef,undef,undef,undef,undef,undef,undef,undef,undef,undef,undef,undef,undef,undef,undef,undef,undef,undef,undef,undef,undef,undef],defers:=[]}) ?assign ?body ?done ?stop
 case own=>
  rintro pre A C row ⟨vT,hv,h1,h2,h3,h4,h5⟩ hg hr;have hk:A1 A C row.toList:=(A1.refl A row.toList).grown hg (λq e=>.inl Ld);refine⟨vT,hv,h1.step hg (λr e=>(hr r e).2),h2.grown hg (λr e=>.inr (by have:=(hr r e).1;omega)),(hk.block w.heap.size (ak h3) (λhm=>by have:=(hr _ aaD).1;omega)).trans h3,y5 h4 hg.size,h5.grown hg (by have:=Ma.out.fc.ln;omega) (λq e=>by have:=(hr q e).1;have:=Ma.out.fc.ln;omega)⟩
 case assign=>
  intro l x W' K hK;simp only[WV]
  gi_wp2
  exact hK
 case body=>
  rintro l pre ⟨⟨⟨n,ps⟩,pv⟩,hx⟩ W ⟨vT,hv,h1,h2,h3,h4,h5⟩ hlt;have hxr:(n,ps)∈T.N.rules:=hx.1;have yY:n<nN:=by rw[Ec.out];exact Ma.out.fc.gr.ok.lt _ hxr
  have hp8:ps.length<=8:=Ma.out.fc.gr.ok.parts _ hxr;have hpW:C0 W T.n0 pv ps:=hx.2.below h5;have hsm:=RK (pre.map λx=>x.1.1) (λr hr=>by
   obtain⟨y,_,rfl⟩:=cj.1 hr;exact Ma.out.fc.gr.ok.parts _ y.2.1)
  rw[lM]at hsm;have hT:BD ((pre++ [(⟨((n,ps),pv),hx⟩:RI T.N W3 T.n0)]).map λx=>x.1.1)=D0 (BD (pre.map λx=>x.1.1)) (n,ps):=by
   rw[ew,List.map_singleton,SB]
  obtain⟨⟨yQ,hds⟩,hth⟩:∃z,BD (pre.map λx=>x.1.1)=z:=⟨_,rfl⟩;rw[hth]at hT h1 hsm;simp only at h1 hsm hlt ⊢;have HCT:=hid hT;obtain⟨ad,cap,rfl,hcap,Lj⟩:=hpW;obtain⟨kT,hkT⟩:=qE (yQ.length);obtain⟨kH,hkH⟩:=qE ((hds n).length);have alD:kT<=540:=by omega
  have alE:kH<=60:=by have:=hsm.2 n;omega
  obtain⟨yu,yl,rfl,hcT⟩:∃ad cap,vT=.slice ad kT cap/\kT<=cap:=by rw[<-hkT];exact E7 h1.tl
  have hrow:W.ownsRow w.heap.size 3 1 (hv n) kH (D8 (hds n)):=by rw[<-hkH];exact h1.hi n yY
  obtain⟨vH,hvH⟩:=qE (hv n);have cB:W.cell? (af w.heap.size 0)=some (ac wb):=(A0 h3).trans rfl;have c3:W.cell? (af wb 3)=some (.slice yu kT yl):=(A0 h1.blk).trans rfl;have c4:W.cell? (af wb 4)=some (ae w1.heap.size nN nN):=(A0 h1.blk).trans rfl;have cn:W.cell? (af w1.heap.size n)=some vH:=by
   obtain⟨cs,hc1,hc2,hc3⟩:=h1.hb;rw[<-hvH];exact(A0 hc1).trans (hc3 n yY)
  obtain⟨csg,hcg,_,_⟩:=h1.hb;rw[hvH]at hrow;have Qh:some w.heap.size≠vH.ownBlock:=λe=>A5 hrow h3 (by decide) e.symm
  have ogG:some w1.heap.size≠vH.ownBlock:=λe=>A5 hrow hcg (by decide) e.symm
  have ogW:some wb≠vH.ownBlock:=λe=>by have:=(hrow.lt wb e.symm).1;omega
  have hlG:w1.heap.size<W.heap.size:=ak hcg;have HPc:=hid Lj;have Da:=hid hrow;have HC:=hid h1;have HK:=hid h2;have HB:=hid h3;have Db:=hid h5;have Yi:=hid (And.intro hkT (And.intro hkH hvH));have hni:((n:Int)< (nN:Int)):=by omega
  clear hxr Lj hsm hT hth hkT hkH hvH hrow h1 h2 h3 h5 hcg
  gi_wp2
  refine BZ (λw'=>w'.cell? (af w.heap.size 0)=some (ac wb)/\w'.cell? (af wb 3)=some (.slice yu kT yl)/\w'.cell? (af wb 4)=some (ae w1.heap.size nN nN)/\w'.cell? (af w1.heap.size n)=some vH) hmx yg Ka yg ⟨cB,c3,c4,cn⟩ (λhH=>?_);simp only[AB,BM,AO];refine tB 0 hH ?_;refine tB 1 hH ?_;refine tB 2 hH ?_;refine tB 3 hH ?_;refine tB 4 hH ?_;refine tB 5 hH ?_;refine tB 6 hH ?_;refine tB 7 hH ?_;refine tB 8 hH ?_;refine tB 9 hH ?_;refine tB 10 hH ?_;refine tB 11 hH ?_;refine tB 12 hH ?_;refine tB 13 hH ?_;refine tB 14 hH ?_;refine tB 15 hH ?_;refine tB 16 hH ?_;refine tL ?_;refine tS 17 λK hK=>?_
  refine tM ?_;go_simp;refine hK.out _ _ ?_ λhH=>?_
  ·exact⟨A2 _ hH.1,A2 _ hH.2.1,A2 _ hH.2.2.1,A2 _ hH.2.2.2⟩
  clear hK K;refine tL ?_;refine tS 18 λK hK=>?_
  refine tM ?_;rw[aq (by rfl)];refine mz _ (.tmp 42) (.tmp 48) 45 rfl w.heap.size 3 iI (ab 0) 1 8 Tryz.underlying45 Io Ip Iq Ir rfl (by decide) vH _ _ rfl (Da.out.alloc _) (af W.heap.size 0) 1 1 [ab kT] rfl rfl (dh (fr:=(0,0)) (dw W _)) Fb (by omega) zX (by omega) yM _ rfl ?_;intro g2 cap2 w7 hown hgrow hat Bv;refine hK.out _ _ ?_ λhH=>?_
  ·exact⟨(hgrow.cell_far _ yM (by exact Qh)).trans hH.1,(hgrow.cell_far _ yM Vq).trans hH.2.1,(hgrow.cell_far _ yM Vq).trans hH.2.2.1,(hgrow.cell_far _ yM (by exact ogG)).trans hH.2.2.2⟩
  clear hK K;refine tL ?_;refine tB 19 hH ?_;refine tB 20 hH ?_;refine tL ?_;refine bk yg ?_ _;clear hH;obtain⟨z1,z2,z3⟩:=HC.out.head (x:=kT) yY (Wa:=(W.alloc (.cells #[ab kT] 3)).drew) ((A1.refl W []).alloc _).drew (by rw[Yi.out.2.2];exact hgrow) (by rw[Yi.out.2.1];exact hown) (λg hg=>by
   obtain rfl:g2=g:=by simpa[Value.ownBlock] using hg
   rcases hat with h4 |h4
   ·exact .inl (by rw[Yi.out.2.2];exact h4)
   ·exact .inr Zy)
  obtain⟨cs1,hc1,hc2⟩:=z1;have zc:w7.cell? (af w1.heap.size n)=some (hv n):=(A0 hc1).trans hc2;have zf:=A3 (j:=n) hc1;have HZ:=hid (And.intro z2 z3);clear z2 z3 hc1 hc2 hown hgrow hat Bv cB c3 c4 cn;show wpList _ _ _ _ _ _;go_wp2;obtain⟨W5,Dc⟩:=qE (w7.setCell (af w1.heap.size n) (ae g2 (kH+1) cap2));rw[Dc]at HZ ⊢;clear Dc zc zf;obtain⟨hv',agE⟩:=qE ((λm=>if m=n then ae g2 (kH+1) cap2 else hv m));obtain⟨agF,aef⟩:=qE ((λm=>if m=n then hds m++ [kT]else hds m));rw[agE,aef]at HZ;have Lm:=hid HZ.out.1;have Fh:=hid HZ.out.2;have ajz:=hid aef;have Pu:∀q∈w1.heap.size::(hv n).ownBlock.toList,w.heap.size<q:=λq hq=>by
   rcases bh.1 hq with e |e
   ·omega
   ·have e:(hv n).ownBlock=some q:=by simpa using e
    have e1:=((HC.out.hi n yY).lt q e).1;have e2:w.heap.size≠q:=λe3=>Qh (by rw[e3,<-Yi.out.2.2,e])
    omega
  have zI:Hid (W5.heap[w.heap.size]?=some (.cells #[ac wb] 270 (0,0))):=hid ((Fh.out.block w.heap.size (by omega) (λhm=>by have:=Pu _ hm;omega)).trans HB.out);have hs5:=Fh.out.size;have aeg:Hid (Below T.n0 W W5):=hid (Fh.out.below abT (λq hq=>by have:=Pu q hq;have:=zW.n0;omega));clear agE aef HZ
  gi_wp2
  gi_loopw [53] (λz wr=>∃(i:Nat) (Fo:Value),i<=ps.length/\z=ab i/\Hid (GS wr w.heap.size wb w1.heap.size (ac T.tb) rv vd nN Fo hv' (yQ++(ps.take i).map some) agF)/\Hid (A1 W5 wr (wb::(Value.slice yu kT yl).ownBlock.toList))/\Hid (BH W5.heap.size (.slice yu kT yl) Fo)) (λz _=>ps.length - (intOf z).toNat)
  case atStart=>exact⟨0,_,bu _,rfl,hid (by simpa using Lm.out),hid (A1.refl _ _),hid (BH.refl _ _)⟩
  case round=>
   obtain⟨i,Fo,hi,rfl,hcv,y7,hfr⟩:=hrel
   by_cases Bv:i<ps.length
   ·obtain⟨p,hp⟩:∃p,ps[i]?=some p:=⟨_,gE Bv⟩
    obtain⟨g,off,rfl,Qr,Fj⟩:=HPc.out (by omega);have hbr:Below T.n0 W wr:=aeg.out.trans (y7.out.below abT (λq hq=>by
     rcases bh.1 hq with e |e
     ·rw[e];exact hBw.n0
     ·have:=(HC.out.tl.lt q Cp).1;have:=zW.n0;omega))
    obtain⟨q1,q2⟩:=Fj i p hp;have Qf:=(hbr.cell (p:=(af g (off+i*2))) (by exact Qr)).trans q1;have Qg:=(hbr.cell (p:=(af g (off+i*2+1))) (by exact Qr)).trans q2;have HP:=hid hp;have HTC:Hid (TC (some p)=[.bool false,.bool (AQ p),ab (AP p)]):=hid rfl;obtain⟨bp,Qi⟩:=qE (AQ p);obtain⟨np,hnp⟩:=qE (AP p);rw[Qi,hnp]at HTC;rw[Qi]at Qf;rw[hnp]at Qg;clear hbr q1 q2 Fj hp Qi hnp
    gi_wp2
    obtain⟨w8,Yj⟩:=qE (wr.alloc (.cells #[.bool bp,ab np] 235));have Ff:A1 wr w8 []:=by rw[<-Yj];exact(A1.refl wr []).alloc _
    have acC:w8.heap[wr.heap.size]?=some (.cells #[.bool bp,ab np] 235 (0,0)):=by rw[<-Yj];exact ay wr _
    have hz8:wr.heap.size<w8.heap.size:=ak acC;rw[Yj];have Ux:=hid (hcv.out.keeps Ff (λk h=>by cases h));have Ol:Hid (A1 W5 w8 (wb::(Value.slice yu kT yl).ownBlock.toList)):=hid (y7.out.trans (Ff.mono (λq h=>by cases h)));have agG:some wr.heap.size≠Fo.ownBlock:=λe=>by have:=CJ hcv.out.tl e.symm;omega
    have cq0:=(A0 (j:=0) acC).trans rfl;have cq1:=(A0 (j:=1) acC).trans rfl;obtain⟨kk,hkk⟩:=qE ((yQ++(ps.take i).map some).length);have ajA:kk<=548:=by rw[<-hkk,lA,lM,nk,Yi.out.1];omega
    have Sy:w8.ownsRow w.heap.size 346 3 Fo kk (FN (yQ++(ps.take i).map some)):=by rw[<-hkk];exact Ux.out.tl
    have Be:w8.heap[w.heap.size]?=some (.cells #[ac wb] 270 (0,0)):=(Ol.out.block w.heap.size (by omega) (λhm=>by
     rcases bh.1 hm with e |e
     ·omega
     ·exact A5 Lm.out.tl zI.out (by decide) Cp)).trans zI.out
    have cB8:w8.cell? (af w.heap.size 0)=some (ac wb):=(A0 Be).trans rfl;have Yk:w8.cell? (af wb 3)=some Fo:=(A0 Ux.out.blk).trans rfl;have aeh:some w.heap.size≠Fo.ownBlock:=λe=>A5 Sy Be (by decide) e.symm
    have aei:some wb≠Fo.ownBlock:=λe=>by have:=(Sy.lt wb e.symm).1;omega
    have abq:=hid Sy;have Rp:=hid hkk;have hs8:W5.heap.size<=w8.heap.size:=Ol.out.size;have hzr:W5.heap.size<=wr.heap.size:=y7.out.size;have hwr:wb<wr.heap.size:=by omega
    clear Yj Ff acC hkk Sy Be hcv y7 Qf Qg;refine BZ (λw'=>w'.cell? (af w.heap.size 0)=some (ac wb)/\w'.cell? (af wb 3)=some Fo/\w'.cell? (af wr.heap.size 0)=some (.bool bp)/\w'.cell? (af wr.heap.size 1)=some (ab np)) hmx yg Ka yg ⟨cB8,Yk,cq0,cq1⟩ (λhH=>?_);simp only[AB,BM,AO];refine tB 0 hH ?_;refine tB 1 hH ?_;refine tB 2 hH ?_;refine tB 3 hH ?_;refine tB 4 hH ?_;refine tB 5 hH ?_;refine tB 6 hH ?_;refine tL ?_;refine tS 7 λK hK=>?_
    refine tM ?_;go_simp;refine hK.out _ _ ?_ λhH=>?_
    ·exact⟨A2 _ hH.1,A2 _ hH.2.1,A2 _ hH.2.2.1,A2 _ hH.2.2.2⟩
    clear hK K;refine tL ?_;refine tS 8 λK hK=>?_
    refine tM ?_;rw[aq (by rfl)];refine mz _ (.tmp 61) (.tmp 64) 303 rfl w.heap.size 346 iT (.agg #[.bool false,.bool false,ab 0]) 3 24 Tryz.underlying303 hiT acf acg ach rfl (by decide) Fo _ _ rfl (abq.out.alloc _) (af w8.heap.size 0) 1 1 [.bool false,.bool bp,ab np] rfl rfl (dh (fr:=(0,0)) (dw w8 _)) Fb (by omega) zX (by omega) yM _ rfl ?_;intro g3 Am w9 hown hgrow hat Eh;refine hK.out _ _ ?_ λhH=>?_
    ·exact⟨(hgrow.cell_far _ yM (by exact aeh)).trans hH.1,(hgrow.cell_far _ yM (by exact aei)).trans hH.2.1,(hgrow.cell_far _ yM (by exact agG)).trans hH.2.2.1,(hgrow.cell_far _ yM (by exact agG)).trans hH.2.2.2⟩
    clear hK K;refine tL ?_;refine tB 9 hH ?_;refine tB 10 hH ?_;refine tB 11 hH ?_;refine tL ?_;refine bk yg ?_ _;clear hH;obtain⟨z1,z2,z3⟩:=Ux.out.tail (o:=some p) (Wa:=(w8.alloc (.cells #[.bool false,.bool bp,ab np] 346)).drew) ((A1.refl w8 []).alloc _).drew hgrow (by rw[Rp.out,HTC.out];exact hown);have zc:w9.cell? (af wb 3)=some Fo:=(A0 z1).trans rfl;have zf:=A3 (j:=3) z1;have HZ2:=hid z2;have HZ3:=hid z3;have HFr:Hid (BH w8.heap.size Fo (ae g3 (kk+1) Am)):=hid (λg hg=>by
     obtain rfl:g3=g:=by simpa[Value.ownBlock] using hg
     rcases hat with h4 |h4
     ·exact .inl h4
     ·exact .inr Zy)
    clear z1 z2 z3 hown hgrow hat Eh cB8 Yk cq0 cq1;show wpList _ _ _ _ _ _;go_wp2
    gi_wp2
    go_roundw
    case rel=>exact⟨i+1,_,by omega,by go_num,hid (by rw[sy,HP.out,Option.toList_some,ew,<-aA];exact HZ2.out),hid (Ol.out.fresh HZ3.out hfr.out (yF _)),hid (hfr.out.trans HFr.out hs8)⟩
    case measure=>simp[intOf];omega
   ·have hie:i=ps.length:=by omega
    subst hie;have Ux:=hid hcv.out;have Ol:=hid y7.out;obtain⟨i,hi'⟩:=qF (ps.length);rw[<-hi']at Ux;have HIe:=hid hi';obtain⟨kk,hkk⟩:=qE ((yQ++(ps.take i).map some).length);have ajA:kk<=548:=by rw[<-hkk,lA,lM,nk,Yi.out.1];omega
    have Sy:wr.ownsRow w.heap.size 346 3 Fo kk (FN (yQ++(ps.take i).map some)):=by rw[<-hkk];exact Ux.out.tl
    have Be:wr.heap[w.heap.size]?=some (.cells #[ac wb] 270 (0,0)):=(Ol.out.block w.heap.size (by omega) (λhm=>by
     rcases bh.1 hm with e |e
     ·omega
     ·exact A5 Lm.out.tl zI.out (by decide) Cp)).trans zI.out
    have cB8:wr.cell? (af w.heap.size 0)=some (ac wb):=(A0 Be).trans rfl;have Yk:wr.cell? (af wb 3)=some Fo:=(A0 Ux.out.blk).trans rfl;have aeh:some w.heap.size≠Fo.ownBlock:=λe=>A5 Sy Be (by decide) e.symm
    have aei:some wb≠Fo.ownBlock:=λe=>by have:=(Sy.lt wb e.symm).1;omega
    have abq:=hid Sy;have Rp:=hid hkk;have hs8:W5.heap.size<=wr.heap.size:=Ol.out.size;have HTC:Hid (TC none=[.bool true,.bool false,ab 0]):=hid rfl;clear hkk Sy Be hcv y7 hi'
    gi_wp2
    refine BZ (λw'=>w'.cell? (af w.heap.size 0)=some (ac wb)/\w'.cell? (af wb 3)=some Fo) hmx yg Ka yg ⟨cB8,Yk⟩ (λhH=>?_);simp only[AB,BM,AO];refine tB 0 hH ?_;refine tB 1 hH ?_;refine tB 2 hH ?_;refine tB 3 hH ?_;refine tB 4 hH ?_;refine tB 5 hH ?_;refine tL ?_;refine tS 6 λK hK=>?_
    refine tM ?_;go_simp;refine hK.out _ _ ?_ λhH=>?_
    ·exact⟨A2 _ hH.1,A2 _ hH.2⟩
    clear hK K;refine tL ?_;refine tS 7 λK hK=>?_
    refine tM ?_;rw[aq (by rfl)];refine mz _ (.tmp 73) (.tmp 75) 303 rfl w.heap.size 346 iT (.agg #[.bool false,.bool false,ab 0]) 3 24 Tryz.underlying303 hiT acf acg ach rfl (by decide) Fo _ _ rfl (abq.out.alloc _) (af wr.heap.size 0) 1 1 [.bool true,.bool false,ab 0] rfl rfl (dh (fr:=(0,0)) (dw wr _)) Fb (by omega) zX (by omega) yM _ rfl ?_;intro g3 Am w9 hown hgrow hat Eh;refine hK.out _ _ ?_ λhH=>?_
    ·exact⟨(hgrow.cell_far _ yM (by exact aeh)).trans hH.1,(hgrow.cell_far _ yM (by exact aei)).trans hH.2⟩
    clear hK K;refine tL ?_;refine tB 8 hH ?_;refine tB 9 hH ?_;refine tB 10 hH ?_;refine tL ?_;refine bk yg ?_ _;clear hH;obtain⟨z1,z2,z3⟩:=Ux.out.tail (o:=none) (Wa:=(wr.alloc (.cells #[.bool true,.bool false,ab 0] 346)).drew) ((A1.refl wr []).alloc _).drew hgrow (by rw[Rp.out,HTC.out];exact hown);have zc:w9.cell? (af wb 3)=some Fo:=(A0 z1).trans rfl;have zf:=A3 (j:=3) z1;have HZ2:=hid z2;have HZ3:=hid z3;clear z1 z2 z3 hown hgrow hat Eh cB8 Yk;show wpList _ _ _ _ _ _;go_wp2;have hKe:=Ol.out.fresh HZ3.out hfr.out (yF _);have Sk:∀q∈wb::(Value.slice yu kT yl).ownBlock.toList,q=wb\/w.heap.size<q:=λq hq=>by
     rcases bh.1 hq with e |e
     ·exact .inl e
     ·have e:(Value.slice yu kT yl).ownBlock=some q:=by simpa using e
      have e1:=(Lm.out.tl.lt q e).1;have e2:q≠w.heap.size:=λe3=>A5 Lm.out.tl zI.out (by decide) (by rw[e,e3])
      exact .inr (by omega)
    refine⟨(G6 Fh.out (λq hq=>HC.out.kinds ?_)).trans (G6 hKe (λq hq=>Lm.out.kinds ?_)),aeg.out.trans (hKe.below abT (λq hq=>?_)),?_⟩
    ·rcases bh.1 hq with e |e
     ·exact .inr (.inl e)
     ·exact .inr (.inr (.inr ⟨n,yY,by simpa using e⟩))
    ·rcases bh.1 hq with e |e
     ·exact .inl e
     ·exact .inr (.inr (.inl Cp))
    ·rcases Sk q hq with e |e
     ·rw[e];exact hBw.n0
     ·have:=zW.n0;omega
    ·dsimp only
     rw[HCT.out];refine⟨ae g3 (kk+1) Am,hv',?_,(HK.out.over Fh.out (λq hq=>.inr (by have:=Pu q hq;omega))).over hKe (λq hq=>?_),(hKe.block w.heap.size (by omega) (λhm=>by rcases Sk _ hm with e |e <;> omega)).trans zI.out,?_,Db.out.trans (aeg.out.trans (hKe.below abT (λq hq=>?_)))⟩
     ·have h9:=HZ2.out
      rw[HIe.out,mj]at h9;have e9:agF=(D0 (yQ,hds) (n,ps)).2:=by rw[<-ajz.out,<-Yi.out.1];rfl
      rw[e9]at h9;exact h9
     ·rcases Sk q hq with e |e
      ·exact .inl (by simp[e])
      ·exact .inr (by omega)
     ·have:=hKe.size;(try simp only[af]at this ⊢);omega
     ·rcases Sk q hq with e |e
      ·rw[e];exact hBw.n0
      ·have:=zW.n0;omega
 case done=>
  rintro D ys W hD hys ⟨vT,hv,h1,h2,h3,h4,h5⟩ hK;rw[hys]at h1;have HC:=hid h1;have HK:=hid h2;have HD:=hid hK;clear h1 h2 h3 h5 hys hK
  gi_wp2
  refine⟨by simp,.inl ⟨_,_,rfl,uo HD.out,?_⟩⟩;exact⟨_,ql rfl _ _ _,rfl,w1.heap.size,vT,hv,HC.out.step (qa _ D (.deferred none)) (λr e=>by cases e;exact⟨_,HD.out,rfl⟩),HK.out.grown (qa _ D (.deferred none)) (λk e=>by cases e;exact .inr (by omega))⟩
 case stop=>
  rintro D c pre W' _ _ h _;exact h.elim
end
theorem UT {b:List (Option Pt)}:∀{a:List (Option Pt)}{l:List Pt},Ms a=some l->Ms (a++b)=some l
 | [],l,h=>by cases h
 |none::a,l,h=>h
 |some p::a,l,h=>by
  simp only[Ms]at h;cases h1:Ms a with
  |none=>rw[h1]at h;cases h
  |some l'=>
   rw[h1]at h;show(Ms (a++b)).map (p:: ·)=some l;rw[UT h1];exact h
theorem bD:∀(ps:List Pt),Ms (ps.map some++ [none])=some ps
 | []=>rfl
 |p::ps=>by
  show(Ms (ps.map some++ [none])).map (p:: ·)=some (p::ps);rw[bD ps];rfl
theorem QD {a b:List (Option Pt)}{q:Nat}{l:List Pt} (h:BJ a q=some l):BJ (a++b) q=some l:=by
 have hq:q<a.length:=by
  rcases jw q a.length with h1 |h1
  ·exact h1
  ·unfold BJ at h
   rw[tq h1]at h;cases h
 unfold BJ at h ⊢;rw[xg (qb hq)];exact UT h
theorem Q1 {a:List (Option Pt)} (ps:List Pt) {k:Nat} (hk:k<=ps.length):BJ (a++ps.map some++ [none]) (a.length+k)=some (ps.drop k):=by
 unfold BJ;have h1:(a++ps.map some++ [none]).drop (a.length+k)=(ps.drop k).map some++ [none]:=by
  rw[aA,<-List.drop_drop,yC,xg (by simpa using hk),<-List.map_drop]
 rw[h1];exact bD _
structure TH (l:List (Nat × List Pt)) (s:List (Option Pt) × (Nat->List Nat)):Prop where
 ok:PG s.1
 old:∀n q,q∈s.2 n->∃rhs,BJ s.1 q=some rhs/\(n,rhs)∈l
 new:∀n rhs,(n,rhs)∈l->∃q,q∈s.2 n/\BJ s.1 q=some rhs
 pt:∀(q:Nat) (p:Pt),s.1[q]?=some (some p)->∃r∈l,p∈r.2
theorem TH.step {l:List (Nat × List Pt)}{s:List (Option Pt) × (Nat->List Nat)} (h:TH l s) (r:Nat × List Pt):TH (l++ [r]) (D0 s r) where
 ok:=λq hq=>by
  have e:(D0 s r).1.length=s.1.length+(r.2.length+1):=by simp[D0]
  rcases jw q s.1.length with h1 |h1
  ·obtain⟨l',h2⟩:=h.ok q h1
   refine⟨l',?_⟩;unfold D0;rw[aA];exact QD h2
  ·refine⟨r.2.drop (q - s.1.length),?_⟩
   have:=Q1 (a:=s.1) r.2 (k:=q - s.1.length) (by omega);rw[show s.1.length+(q - s.1.length)=q by omega]at this;exact this
 old:=λn q hq=>by
  have hold:q∈s.2 n->∃rhs,BJ (D0 s r).1 q=some rhs/\(n,rhs)∈l++ [r]:=λh1=>by
   obtain⟨rhs,h2,h3⟩:=h.old n q h1;refine⟨rhs,?_,vo _ h3⟩;unfold D0;rw[aA];exact QD h2
  simp only[D0]at hq;split at hq
  ·rename_i e
   rcases gj.1 hq with h1 |h1
   ·exact hold h1
   ·have h1:=mS.1 h1
    refine⟨r.2,?_,ux _ (by rw[e];exact mS.2 rfl)⟩;have:=Q1 (a:=s.1) r.2 (k:=0) (bu _);rw[h1];exact this
  ·exact hold hq
 new:=λn rhs hr=>by
  rcases gj.1 hr with h1 |h1
  ·obtain⟨q,h2,h3⟩:=h.new n rhs h1
   refine⟨q,?_,?_⟩
   ·simp only[D0]
    split
    ·exact vo _ h2
    ·exact h2
   ·unfold D0
    rw[aA];exact QD h3
  ·have h1:=mS.1 h1
   subst h1;refine⟨s.1.length,?_,?_⟩
   ·simp[D0]
   ·have:=Q1 (a:=s.1) rhs (k:=0) (bu _)
    simpa[D0] using this
 pt:=λq p hq=>by
  simp only[D0]at hq;rw[aA]at hq
  rcases jw q s.1.length with h1 |h1
  ·rw[aL h1]at hq
   obtain⟨r',h2,h3⟩:=h.pt q p hq;exact⟨r',vo _ h2,h3⟩
  ·rw[zQ h1]at hq
   have h2:=mG hq
   rcases gj.1 h2 with h3 |h3
   ·obtain⟨p',h4,h5⟩:=cj.1 h3
    injection h5 with h5
    subst h5;exact⟨r,ux _ (mS.2 rfl),h4⟩
   ·have h3:=mS.1 h3
    cases h3
theorem PP (l:List (Nat × List Pt)):TH l (BD l):=by
 have h:∀(l l0:List (Nat × List Pt)) (s:List (Option Pt) × (Nat->List Nat)),TH l0 s->TH (l0++l) (l.foldl D0 s):=by
  intro l
  induction l with
  |nil=>intro l0 s hs;rw[iq];exact hs
  |cons r l ih=>
   intro l0 s hs;have:=ih (l0++ [r]) _ (hs.step r);rw[aA]at this;exact this
 have h0:TH [] (([],λ_=>[]):List (Option Pt) × (Nat->List Nat)):=⟨λq hq=>absurd hq (by simp),λn q hq=>absurd hq (by simp),λn rhs hr=>absurd hr (by simp),λq p hq=>absurd hq (by simp)⟩;exact h l [] _ h0
theorem fJ {yQ:List (Option Pt)}{q:Nat}{l:List Pt} (h:BJ yQ q=some l):q<yQ.length:=by
 rcases jw q yQ.length with h1 |h1
 ·exact h1
 ·unfold BJ at h
  rw[tq h1]at h;cases h
def M5 (nN:Nat) (hds:Nat->List Nat):List (List Nat):=(List.range nN).map hds
theorem gB {nN n:Nat} (hn:n<nN) (hds:Nat->List Nat):(M5 nN hds)[n]?=some (hds n):=by
 unfold M5;rw[gM,ng hn];rfl
theorem bE (nN:Nat) (hds:Nat->List Nat):(M5 nN hds).length=nN:=by unfold M5;simp
theorem T5 {nN n:Nat}{hds:Nat->List Nat}{l:List Nat} (h:(M5 nN hds)[n]?=some l):n<nN/\l=hds n:=by
 have h1:n<nN:=by have:=(yS.1 h).1;rwa [bE]at this
 rw[gB h1]at h;injection h with h
 exact⟨h1,h.symm⟩
theorem sW {N:NG} (hN:N.Ok):Pz N (BJ (BD N.rules).1) (FJ (M5 N.nN (BD N.rules).2)):=by
 have hI:=PP N.rules;refine⟨λq p ps h=>?_,λn rhs hr=>?_,λn q h=>?_⟩
 ·rcases RQ hI.ok h with⟨h1,_⟩ | ⟨p',ps',h1,h2⟩
  ·cases h1
  ·obtain⟨_,ps2,h3,h4⟩:=MM hI.ok h2
   rw[h]at h4;injection h4 with h4
   injection h4 with _ h5
   rw[h5];exact h3
 ·obtain⟨q,h1,h2⟩:=hI.new n rhs hr
  exact⟨q,⟨_,gB (hN.lt _ hr) _,h1⟩,h2⟩
 ·obtain⟨l,h1,h2⟩:=h
  obtain⟨_,rfl⟩:=T5 h1;exact hI.old n q h2
theorem WP {α:Type}{F:Fence}{n:Nat}{P:Program}{g:Operand}{ps:Array Tmp}{assign body:Code}{Q:Exit->Act->World->Prop}{a:Act}{w:World}
  (hro:F.round=none) (h1:1<=n) {gf:Nat}{lb:Array Value} (hg:a.eval g=.func (.func gf) #[] lb) (hF:F.fn gf) (he:∀args w,(callFunc gf args).run P w=.ok (.enter gf args) w)
  {enc:α->Array Value} (ajB:∀x,(enc x).size=ps.size) {Ord:List α->Prop}{S:List α->Prop}{K:World->World->Prop}
  (hseq:∀(l:Nat) (J:List α->World->Prop) (W:World),Below w.heap.size w W->(∀pre x V,J pre V->Ord (pre++ [x])->YieldAt F (n - 1 - 1) P l (enc x) V λe V'=>e=.returned (.bool true)/\J (pre++ [x]) V'/\K V V')->J [] W->
   CallsIn F (n - 1) P gf (#[.func (.yield l) #[] #[]]++lb) W λe W'=>(∃v,e=.returned v)/\∃ys,S ys/\J ys W')
  (hKt:∀{A B C:World},K A B->K B C->K A C) (hKb:∀(W:World) (l:Nat) (o o':Obj),w.heap.size<=l->W.heap[l]?=some o->o.isCells=false->K W (W.putObj l o'))
  (I:List α->World->Prop) (hI:OwnFrom w.heap.size I) (h0:I [] w) (a₁:α->Act)
  (hassign:∀(l:Nat) (x:α) (W:World) (R:Act->World->Prop),R (a₁ x) W->assign.wpIn (F.inRound l) (n - 1 - 1) P (Exit.then R (λ_ _ _=>False)) {tmps:=(ps.zip (enc x)).foldl (λt (p,v)=>t.setIfInBounds p v) a.tmps,defers:=[]} W)
  (hbody:∀(l:Nat) (pre:List α) (x:α) (W:World),I pre W->Ord (pre++ [x])->body.wpIn (F.inRound l) (n - 1 - 1) P (ownPostG w.heap.size K I (λ_ _ _=>False) (pre++ [x]) W) (a₁ x) W)
  (hdone:∀(D:Nat) (ys:List α) (W:World),w.heap.size<=D->S ys->I ys W->W.heap[D]?=some (.deferred (some []))->Q .normal {a with defers:={target:=.collected D,args:= #[]}::a.defers} W):
  (Code.rangeFunc g ps assign body).wpIn F n P Q a w:=by
 refine wpIn_rangeFunc ?_;intro fn hfn;rw[hro]
 let R:LoopState->Option Code->Loop:=λst pe=>{state:=st,pending:=pe,fn,tmps:=a.tmps,params:=ps,assign,body,defers:=w.heap.size}
 let T:Loop->World->Prop:=λr V=>V.heap[w.heap.size+1]?=some (.loop r)/\V.heap[w.heap.size]?=some (.deferred (some []))
 have hTs:∀{r:Loop}{V:World},T r V->w.heap.size+1<V.heap.size:=λh=>(mh.1 h.1).1
 have hTp:∀{r:Loop}{V:World} (r':Loop),T r V->T r' (V.putObj (w.heap.size+1) (.loop r')):=λr' h=>⟨World.putObj_heap_same (hTs h),(rz (by omega)).trans h.2⟩
 have Dk:∀{r:Loop}{V V':World},T r V->KeepsFrom w.heap.size V V'->T r V':=λh hk=>⟨hk.same _ _ (by omega) h.1 rfl,hk.same _ _ (yF _) h.2 rfl⟩
 have hIp:∀{pre:List α}{r:Loop}{V:World} (r':Loop),T r V->I pre V->I pre (V.putObj (w.heap.size+1) (.loop r')):=λr' h hi=>hI.putObj _ hi (by omega) h.1 rfl
 obtain⟨W1,hW1⟩:=qE ((w.alloc (.deferred (some []))).alloc (.loop (R .ready none)));have hT1:T (R .ready none) W1:=by
  rw[<-hW1];have h2:=ay (w.alloc (.deferred (some []))) (.loop (R .ready none));rw[bg]at h2;exact⟨h2,(dm _ _ _ (by simp)).trans (ay w _)⟩
 have hi1:I [] W1:=by rw[<-hW1];exact hI.alloc _ (hI.alloc _ h0)
 have hb1:Below w.heap.size w W1:=by rw[<-hW1];exact((ah _ w).alloc (yF _) _).alloc (by simp) _
 refine⟨w.heap.size+1,[{target:=.collected w.heap.size,args:= #[]}],W1,{target:=.fn (.func gf) lb,args:= #[.func (.yield (w.heap.size+1)) #[] #[]]},W1,gf,#[.func (.yield (w.heap.size+1)) #[] #[]]++lb,W1,?_,?_,?_,?_,λ_=>h1,?_⟩
 ·rw[<-hW1];exact run_enterLoop_outer _ _ _ _ _
 ·simp only[resolve,hg]
  simp[go_sem]
 ·intro f' hf'
  simp[Target.leads]at hf';subst hf';exact hF
 ·simp[invoke,go_sem,he]
 refine(hseq (w.heap.size+1) (λpre V=>I pre V/\T (R .ready none) V) W1 hb1 ?_ ⟨hi1,hT1⟩).mono ?_
 ·rintro pre x V ⟨hi,hT⟩ abr
  have hy:=run_yield (P:=P) (args:=enc x) hT.1 (ajB x);refine⟨fn,_,assign,body,hy,roundIn_of_wpIn hfn (hassign _ x V _ ⟨_,run_beginRound hT.1 rfl,?_⟩)⟩;have hT2:=hTp (R .busy none) hT;refine wpIn_mono (hbody _ pre x _ (hIp _ hT hi) abr) ?_;rintro e a3 V3 hp;cases e with
  |normal=>
   obtain⟨hk3,hq3,Cs⟩:=hp;have Xp:=Dk hT2 hk3;exact⟨_,_,run_endRound (P:=P) none Xp.1,rfl,⟨hIp _ Xp Cs,hTp (R .ready none) Xp⟩,hKt (hKt (hKb _ _ _ _ (by omega) hT.1 rfl) hq3) (hKb _ _ _ _ (by omega) Xp.1 rfl)⟩
  |ret=>exact hp.2.elim
  |exit id=>exact hp.2.elim
  |goto t=>exact hp.2.elim
  |panic ch=>exact hp.elim
  |outgrown=>exact hp.elim
 ·rintro e W2 ⟨⟨v,rfl⟩,ys,hS,hi,hT⟩
  exact⟨none,_,run_endLoop (P:=P) hT.1 (by simp[R]),hdone _ ys _ (yF _) hS (hIp _ hT hi) ((rz (by omega)).trans hT.2)⟩
theorem oP (n:Nat) (hn:1<=n) (l Bn L:Nat) (hL:L<=1000000) (P:Nat->Value->Prop) (K:World->World->Prop) (Q:World->Prop) (Ml:∀A B,Q A->K A B->Q B)
  (hQ:∀W,Q W->∃ad cap,W.cell? (af Bn 0)=some (.slice ad L cap)/\L<=cap/\∀i,i<L->∃g off a,ad=some (af g off)/\P i a/\W.cell? (af g (off+i))=some a)
  (J:List (BX L P)->World->Prop) (W:World) (hY:∀pre x W,J pre W->TJ L ((pre++ [x]).map (·.1.1))->YieldAt Fence.wide (n - 1) Tryz.prog l (NY x) W λe W'=>
   e=.returned (.bool true)/\J (pre++ [x]) W'/\K W W')
  (Fz:Q W) (h0:J [] W):
  CallsIn Fence.wide n Tryz.prog 215 #[.func (.yield l) #[] #[],ac Bn] W λe W'=>(∃v,e=.returned v)/\∃ys:List (BX L P),ys.map (·.1.1)=(List.range L).reverse/\J ys W':=by
 have HY:=hid hY;have HQK:=hid Ml;have HQ:=hid hQ;have Ki:Hid (J [] W):=hid h0;have Pb:Hid (Q W):=hid Fz;obtain⟨ad,cap,c0,hcap,_⟩:=hQ W Fz;clear hY h0 Ml hQ Fz;refine ud Tryz.func215 rfl trivial ?_ rfl;simp only[Tryz.ntmps215,iz,lC,iw,Nat.reduceAdd,Nat.reduceSub,jg,jh,ju,jo,eu,ig]
 gi_wp2
 clear c0 hcap
 gi_loopw [3] (λp wr=>∃(k:Nat) (pre:List (BX L P)),k<=L/\p=ab ((k:Int) - 1)/\Hid (pre.map (·.1.1)++(List.range k).reverse=(List.range L).reverse)/\Hid (J pre wr)/\Hid (Q wr)) (λp _=>(intOf p+1).toNat)
 case atStart=>exact⟨L,[],yF _,by go_num,hid rfl,Ki,Pb⟩
 case round=>
  clear Ki Pb;obtain⟨k,pre,hk,rfl,hpre,hJs,Xn⟩:=hrel;cases k with
  |zero=>
   have HE:Hid (pre.map (·.1.1)=(List.range L).reverse):=hid (by have h1:=hpre.out;simpa using h1);rw[show((0:Nat):Int) - 1= -1 by omega]
   gi_wp2
   go_end0
   exact⟨⟨_,rfl⟩,pre,HE.out,hJs.out⟩
  |succ k=>
   rw[show((k+1:Nat):Int) - 1=(k:Int) by omega];obtain⟨ad,cap,c0,hcap,hcs⟩:=HQ.out wr Xn.out;obtain⟨g,off,a,rfl,Uh,cA⟩:=hcs k (by omega);have hlen:pre.length<L:=by
    have h1:=congrArg List.length hpre.out;simp at h1;omega
   have Bh:Hid ((pre++ [(⟨(k,a),by show k<L;omega,Uh⟩:BX L P)]).map (·.1.1)++(List.range k).reverse=(List.range L).reverse):=hid (by
    have h1:=hpre.out;rw[LI]at h1;simpa using h1)
   obtain⟨fn,tmps,assign,body,hy,hR⟩:=HY.out pre ⟨(k,a),by show k<L;omega,Uh⟩ wr hJs.out ⟨k,Bh.out⟩;have hy:(Instr.yield l #[ab (k:Int),a]).run Tryz.prog wr=.ok (.round l fn tmps assign body) wr:=hy;have HR:=hid hR;have HL:Hid (k<L):=hid (by omega);clear hR hlen hcs hpre
   gi_wp2
   refine HR.out.mono ?_;rintro e W3 ⟨rfl,hJ3,hk3⟩
   ·have Wm:=hid hJ3
    have HQ3:=hid (HQK.out _ _ Xn.out hk3);clear hJ3 hk3
    gi_wp2
    go_roundw
    case rel=>exact⟨k,_,by omega,by go_num,Bh,Wm,HQ3⟩
    case measure=>simp[intOf]
end Go.Proofs.YtjjggdcnpndgjaaGreatDoor
